/-
The landed table: the way back of a path without digipeaters; the frame of bytes, narrow.
-/
import Derived.Test.YtgoaepjjegblnaaGreatDoorMix27
import Derived.Test.YtgoaepjjegblnaaGreatDoorMix34
import Derived.Test.YtgoaepjjegblnaaGreatDoorMix37
namespace Go.Proofs.YtgoaepjjegblnaaGreatDoor
open Go.RowKit Go.Sort
set_option maxRecDepth 20000
theorem set7r {w W : World} {m : Nat} {u0 u1 u2 u3 u4 u5 u6 : Value} (h : RowAt W m [u0, u1, u2, u3, u4, u5, u6]) (hb : Below w.heap.size w W) (hm : w.heap.size ≤ m) (v0 v1 v2 v3 v4 v5 v6 : Value) :
    RowAt (((((((W.setCell ⟨m, 0, none⟩ v0).setCell ⟨m, 1, none⟩ v1).setCell ⟨m, 2, none⟩ v2).setCell ⟨m, 3, none⟩ v3).setCell ⟨m, 4, none⟩ v4).setCell ⟨m, 5, none⟩ v5).setCell ⟨m, 6, none⟩ v6) m [v0, v1, v2, v3, v4, v5, v6] ∧ Below w.heap.size w (((((((W.setCell ⟨m, 0, none⟩ v0).setCell ⟨m, 1, none⟩ v1).setCell ⟨m, 2, none⟩ v2).setCell ⟨m, 3, none⟩ v3).setCell ⟨m, 4, none⟩ v4).setCell ⟨m, 5, none⟩ v5).setCell ⟨m, 6, none⟩ v6) ∧ Turn (fun k => k = m) W (((((((W.setCell ⟨m, 0, none⟩ v0).setCell ⟨m, 1, none⟩ v1).setCell ⟨m, 2, none⟩ v2).setCell ⟨m, 3, none⟩ v3).setCell ⟨m, 4, none⟩ v4).setCell ⟨m, 5, none⟩ v5).setCell ⟨m, 6, none⟩ v6) := by
  have hW := Rw.set (Rw.set (Rw.set (Rw.set (Rw.set (Rw.set (Rw.set (Rw.start h) 0 v0) 1 v1) 2 v2) 3 v3) 4 v4) 5 v5) 6 v6
  have hr : RowAt (((((((W.setCell ⟨m, 0, none⟩ v0).setCell ⟨m, 1, none⟩ v1).setCell ⟨m, 2, none⟩ v2).setCell ⟨m, 3, none⟩ v3).setCell ⟨m, 4, none⟩ v4).setCell ⟨m, 5, none⟩ v5).setCell ⟨m, 6, none⟩ v6) m [v0, v1, v2, v3, v4, v5, v6] := hW.row
  exact ⟨hr, hb.trans (hW.turn.below hb.size fun k hk => by rw [hk]; exact hm), hW.turn⟩
set_option maxHeartbeats 2000000 in
theorem cback21 (tb fb : ByteArray) (tn fn : Int) (tm fm cmd : Bool) (a : Option Addr) (cap : Nat) (w : World) (ht : tb.size ≤ 140737488351232) (hf : fb.size ≤ 140737488351232) (hE : EntsAt w a cap []) :
    Calls Tryz.prog 149 #[.agg #[.string tb, .int .i64 tn, .string fb, .int .i64 fn, .bool tm, .bool fm, .slice a 0 cap], .bool cmd] w fun e w' => (∃ da dc, e = .returned (.agg #[.string fb, .int .i64 fn, .string tb, .int .i64 tn, .bool cmd, .bool (!cmd), .slice da 0 dc]) ∧ EntsAt w' da dc []) ∧ Below w.heap.size w w' := by
  obtain ⟨w2, hw2⟩ : ∃ w2, w2 = (w.alloc (.cells #[.string tb, .int .i64 tn, .string fb, .int .i64 fn, .bool tm, .bool fm, .slice a 0 cap] 57)).alloc (.cells #[.string ⟨#[]⟩, .int .i64 0, .string ⟨#[]⟩, .int .i64 0, .bool false, .bool false, .slice none 0 0] 57) := ⟨_, rfl⟩
  have hb2 : Below w.heap.size w w2 := by rw [hw2]; exact ((Below.refl _ w).alloc (Nat.le_refl _) _).alloc (by simp) _
  have hr1 : RowAt w2 w.heap.size [.string tb, .int .i64 tn, .string fb, .int .i64 fn, .bool tm, .bool fm, .slice a 0 cap] := by rw [hw2]; exact (RowAt.new w w.heap.size rfl [.string tb, .int .i64 tn, .string fb, .int .i64 fn, .bool tm, .bool fm, .slice a 0 cap] 57).alloc _
  have hr2 : RowAt w2 (w.heap.size + 1) [.string ⟨#[]⟩, .int .i64 0, .string ⟨#[]⟩, .int .i64 0, .bool false, .bool false, .slice none 0 0] := by rw [hw2]; exact RowAt.new _ _ (by simp) [.string ⟨#[]⟩, .int .i64 0, .string ⟨#[]⟩, .int .i64 0, .bool false, .bool false, .slice none 0 0] 57
  have hbk : ∀ W, Below w.heap.size w W → Calls Tryz.prog 133 #[.agg #[.string tb, .int .i64 tn, .string fb, .int .i64 fn, .bool tm, .bool fm, .slice a 0 cap]] W fun e w' => (∃ x y da dc, e = .returned (.agg #[.string fb, .int .i64 fn, .string tb, .int .i64 tn, .bool x, .bool y, .slice da 0 dc]) ∧ ∀ W', EntsAt W' da dc []) ∧ Below W.heap.size W w' := fun W hb => by
    refine (cback_any tb fb tn fn tm fm a cap [] W (by simp) (hE.below hb) ht hf (fun e he => absurd he (by simp))).mono ?_
    rintro e w' ⟨⟨da, dc, he, hE'⟩, hb⟩
    exact ⟨⟨_, _, da, dc, he, fun W' => ⟨hE'.le, hE'.max, fun k hk => absurd hk (Nat.not_lt_zero k)⟩⟩, hb⟩
  have HBK := Lib.hid hbk
  have HB2 := Lib.hid hb2
  have HR1 := Lib.hid hr1
  have HR2 := Lib.hid hr2
  have c0 := hr1.cell 0 rfl
  have c1 := hr1.cell 1 rfl
  have c2 := hr1.cell 2 rfl
  have c3 := hr1.cell 3 rfl
  have c4 := hr1.cell 4 rfl
  have c5 := hr1.cell 5 rfl
  have c6 := hr1.cell 6 rfl
  clear ht hf hE hb2 hr1 hr2 hbk
  go_enter Tryz.func149, Tryz.ntmps149
  go_upto_region 1 with fail
  rw [← hw2]
  clear hw2
  go_upto_region 2 with (go_at_call 133; (with_reducible refine (HBK.out _ HB2.out).mono ?_); rintro e w3 ⟨⟨x, y, da, dc, rfl, hE'⟩, hb⟩; have HEN := Lib.hid hE'; clear hE'; have HB3 := Lib.hid (HB2.out.trans (hb.mono HB2.out.size)); have HQ := Lib.hid (HR1.out.below hb); have HQ2 := Lib.hid (HR2.out.below hb); clear hb c0 c1 c2 c3 c4 c5 c6; obtain ⟨c0, f0, -⟩ := HQ.out.get 0 rfl; obtain ⟨c1, f1, -⟩ := HQ.out.get 1 rfl; obtain ⟨c2, f2, -⟩ := HQ.out.get 2 rfl; obtain ⟨c3, f3, -⟩ := HQ.out.get 3 rfl; obtain ⟨c4, f4, -⟩ := HQ.out.get 4 rfl; obtain ⟨c5, f5, -⟩ := HQ.out.get 5 rfl; obtain ⟨c6, f6, -⟩ := HQ.out.get 6 rfl)
  obtain ⟨k1, k2, k3⟩ := set7r HQ.out HB3.out (Nat.le_refl _) (.string fb) (.int .i64 fn) (.string tb) (.int .i64 tn) (.bool x) (.bool y) (.slice da 0 dc)
  have HB4 := Lib.hid k2
  have HP2 := Lib.hid (HQ2.out.turn k3 (by omega))
  clear c0 c1 c2 c3 c4 c5 c6 f0 f1 f2 f3 f4 f5 f6 HQ HQ2 k2 k3 HB3
  have HQ := Lib.hid k1
  clear k1
  generalize (((((((w3.setCell ⟨w.heap.size, 0, none⟩ (.string fb)).setCell ⟨w.heap.size, 1, none⟩ (.int .i64 fn)).setCell ⟨w.heap.size, 2, none⟩ (.string tb)).setCell ⟨w.heap.size, 3, none⟩ (.int .i64 tn)).setCell ⟨w.heap.size, 4, none⟩ (.bool x)).setCell ⟨w.heap.size, 5, none⟩ (.bool y)).setCell ⟨w.heap.size, 6, none⟩ (.slice da 0 dc)) = w4 at *
  obtain ⟨c0, f0, -⟩ := HQ.out.get 0 rfl
  obtain ⟨c1, f1, -⟩ := HQ.out.get 1 rfl
  obtain ⟨c2, f2, -⟩ := HQ.out.get 2 rfl
  obtain ⟨c3, f3, -⟩ := HQ.out.get 3 rfl
  obtain ⟨c4, f4, -⟩ := HQ.out.get 4 rfl
  obtain ⟨c5, f5, -⟩ := HQ.out.get 5 rfl
  obtain ⟨c6, f6, -⟩ := HQ.out.get 6 rfl
  go_upto_region 3 with fail
  have hW := Rw.set (Rw.set (Rw.start HQ.out) 4 (.bool cmd)) 5 (.bool (!cmd))
  have hr5 : RowAt ((w4.setCell ⟨w.heap.size, 4, none⟩ (.bool cmd)).setCell ⟨w.heap.size, 5, none⟩ (.bool (!cmd))) w.heap.size [.string fb, .int .i64 fn, .string tb, .int .i64 tn, .bool cmd, .bool (!cmd), .slice da 0 dc] := hW.row
  have HB5 := Lib.hid (HB4.out.trans (hW.turn.below HB4.out.size fun k hk => by rw [hk]; exact Nat.le_refl _))
  have HS2 := Lib.hid (HP2.out.turn hW.turn (by omega))
  clear c0 c1 c2 c3 c4 c5 c6 f0 f1 f2 f3 f4 f5 f6 HQ HP2 hW
  have HQ := Lib.hid hr5
  clear hr5
  generalize ((w4.setCell ⟨w.heap.size, 4, none⟩ (.bool cmd)).setCell ⟨w.heap.size, 5, none⟩ (.bool (!cmd))) = w5 at *
  obtain ⟨ncmd, hnc⟩ : ∃ x, x = !cmd := ⟨_, rfl⟩
  rw [← hnc] at HQ
  have HNC := Lib.hid hnc
  clear hnc
  obtain ⟨c0, f0, -⟩ := HQ.out.get 0 rfl
  obtain ⟨c1, f1, -⟩ := HQ.out.get 1 rfl
  obtain ⟨c2, f2, -⟩ := HQ.out.get 2 rfl
  obtain ⟨c3, f3, -⟩ := HQ.out.get 3 rfl
  obtain ⟨c4, f4, -⟩ := HQ.out.get 4 rfl
  obtain ⟨c5, f5, -⟩ := HQ.out.get 5 rfl
  obtain ⟨c6, f6, -⟩ := HQ.out.get 6 rfl
  obtain ⟨d0, g0, -⟩ := HS2.out.get 0 rfl
  obtain ⟨d1, g1, -⟩ := HS2.out.get 1 rfl
  obtain ⟨d2, g2, -⟩ := HS2.out.get 2 rfl
  obtain ⟨d3, g3, -⟩ := HS2.out.get 3 rfl
  obtain ⟨d4, g4, -⟩ := HS2.out.get 4 rfl
  obtain ⟨d5, g5, -⟩ := HS2.out.get 5 rfl
  obtain ⟨d6, g6, -⟩ := HS2.out.get 6 rfl
  go_wp2_with fail
  obtain ⟨k1, k2, -⟩ := set7r HS2.out HB5.out (by omega) (.string fb) (.int .i64 fn) (.string tb) (.int .i64 tn) (.bool cmd) (.bool ncmd) (.slice da 0 dc)
  clear c0 c1 c2 c3 c4 c5 c6 f0 f1 f2 f3 f4 f5 f6 d0 d1 d2 d3 d4 d5 d6 g0 g1 g2 g3 g4 g5 g6
  generalize (((((((w5.setCell ⟨w.heap.size + 1, 0, none⟩ (.string fb)).setCell ⟨w.heap.size + 1, 1, none⟩ (.int .i64 fn)).setCell ⟨w.heap.size + 1, 2, none⟩ (.string tb)).setCell ⟨w.heap.size + 1, 3, none⟩ (.int .i64 tn)).setCell ⟨w.heap.size + 1, 4, none⟩ (.bool cmd)).setCell ⟨w.heap.size + 1, 5, none⟩ (.bool ncmd)).setCell ⟨w.heap.size + 1, 6, none⟩ (.slice da 0 dc)) = w6 at *
  exact bodyPost_ret (v := .agg #[.string fb, .int .i64 fn, .string tb, .int .i64 tn, .bool cmd, .bool ncmd, .slice da 0 dc]) (by simp [results, Tryz.results149, go_sem, k1.cell 0 rfl, k1.cell 1 rfl, k1.cell 2 rfl, k1.cell 3 rfl, k1.cell 4 rfl, k1.cell 5 rfl, k1.cell 6 rfl]) rfl ⟨⟨da, dc, by rw [HNC.out], HEN.out _⟩, k2⟩
set_option maxHeartbeats 4000000 in
/-- narrow, of bytes that can be decoded -/
theorem cdecode21 (s : ByteArray) (f : Fi) (w : World) (hd : ∀ W, Below w.heap.size w W → Calls Tryz.prog 56 #[.string s, .bool false] W fun e w' => (∃ da dc, e = .returned (.tuple #[.agg #[.string f.tb, .int .i64 f.tn, .string f.fb, .int .i64 f.fn, .bool f.tm, .bool f.fm, .slice da f.D.length dc, .int .i64 f.kind, .int .i64 f.nr, .int .i64 f.ns, .bool f.pf, .int .i64 f.pid, .string f.info], .int .i64 0]) ∧ EntsAt w' da dc f.D ∧ ∀ q, da = some q → W.heap.size ≤ q.block) ∧ Below W.heap.size W w') :
    Calls Tryz.prog 146 #[.string s, .bool false] w fun e w' => (∃ da dc, e = .returned (.tuple #[fiV f da dc, .bool true]) ∧ EntsAt w' da dc f.D) ∧ Below w.heap.size w w' := by
  have HD := Lib.hid hd
  have HB0 := Lib.hid ((Below.refl _ w).alloc (Nat.le_refl _) (.cells #[.string ⟨#[]⟩, .int .i64 0, .string ⟨#[]⟩, .int .i64 0, .bool false, .bool false, .slice none 0 0, .int .i64 0, .int .i64 0, .int .i64 0, .bool false, .int .i64 0, .string ⟨#[]⟩] 74))
  have HF0 := Lib.hid (F13.new w w.heap.size rfl (.string ⟨#[]⟩) (.int .i64 0) (.string ⟨#[]⟩) (.int .i64 0) (.bool false) (.bool false) (.slice none 0 0) (.int .i64 0) (.int .i64 0) (.int .i64 0) (.bool false) (.int .i64 0) (.string ⟨#[]⟩) 74)
  clear hd
  go_enter Tryz.func146, Tryz.ntmps146
  go_wp2_with (go_at_call 56; (with_reducible refine (HD.out _ HB0.out).mono ?_); rintro e w1 ⟨⟨da, dc, rfl, hE, hq⟩, hb⟩; have HE := Lib.hid (hE.alloc (.cells #[.string f.tb, .int .i64 f.tn, .string f.fb, .int .i64 f.fn, .bool f.tm, .bool f.fm, .slice da f.D.length dc, .int .i64 f.kind, .int .i64 f.nr, .int .i64 f.ns, .bool f.pf, .int .i64 f.pid, .string f.info] 74)); have HQ := Lib.hid (show ∀ q, da = some q → q.block ≠ w.heap.size from fun q e => by have := hq q e; simp at this; omega); clear hE hq; have hb1 := HB0.out.trans (hb.mono HB0.out.size); have HB := Lib.hid (hb1.alloc hb1.size (.cells #[.string f.tb, .int .i64 f.tn, .string f.fb, .int .i64 f.fn, .bool f.tm, .bool f.fm, .slice da f.D.length dc, .int .i64 f.kind, .int .i64 f.nr, .int .i64 f.ns, .bool f.pf, .int .i64 f.pid, .string f.info] 74)); have HR := Lib.hid ((HF0.out.below hb).alloc (.cells #[.string f.tb, .int .i64 f.tn, .string f.fb, .int .i64 f.fn, .bool f.tm, .bool f.fm, .slice da f.D.length dc, .int .i64 f.kind, .int .i64 f.nr, .int .i64 f.ns, .bool f.pf, .int .i64 f.pid, .string f.info] 74)); have HO := Lib.hid (F13.new w1 w1.heap.size rfl (.string f.tb) (.int .i64 f.tn) (.string f.fb) (.int .i64 f.fn) (.bool f.tm) (.bool f.fm) (.slice da f.D.length dc) (.int .i64 f.kind) (.int .i64 f.nr) (.int .i64 f.ns) (.bool f.pf) (.int .i64 f.pid) (.string f.info) 74); have hne2 : ¬ w1.heap.size = w.heap.size := (by have := hb.size; simp at this; omega); clear hb hb1; obtain ⟨⟨p0, q0, pl⟩, ⟨p1, q1, -⟩, ⟨p2, q2, -⟩, ⟨p3, q3, -⟩, ⟨p4, q4, -⟩, ⟨p5, q5, -⟩, ⟨p6, q6, -⟩, ⟨p7, q7, -⟩, ⟨p8, q8, -⟩, ⟨p9, q9, -⟩, ⟨p10, q10, -⟩, ⟨p11, q11, -⟩, ⟨p12, q12, -⟩⟩ := HR.out; obtain ⟨⟨b0, z0, bl⟩, ⟨b1, z1, -⟩, ⟨b2, z2, -⟩, ⟨b3, z3, -⟩, ⟨b4, z4, -⟩, ⟨b5, z5, -⟩, ⟨b6, z6, -⟩, ⟨b7, z7, -⟩, ⟨b8, z8, -⟩, ⟨b9, z9, -⟩, ⟨b10, z10, -⟩, ⟨b11, z11, -⟩, ⟨b12, z12, -⟩⟩ := HO.out)
  have S9 := F13.stored HR.out (.string f.tb) (.int .i64 f.tn) (.string f.fb) (.int .i64 f.fn) (.bool f.tm) (.bool f.fm) (.slice da f.D.length dc) (.int .i64 f.kind) (.int .i64 f.nr) (.int .i64 f.ns) (.bool f.pf) (.int .i64 f.pid) (.string f.info)
  have HBF := Lib.hid (set13_below HB.out (Nat.le_refl _) (.string f.tb) (.int .i64 f.tn) (.string f.fb) (.int .i64 f.fn) (.bool f.tm) (.bool f.fm) (.slice da f.D.length dc) (.int .i64 f.kind) (.int .i64 f.nr) (.int .i64 f.ns) (.bool f.pf) (.int .i64 f.pid) (.string f.info))
  have HEF := Lib.hid (ents13 HE.out HQ.out (.string f.tb) (.int .i64 f.tn) (.string f.fb) (.int .i64 f.fn) (.bool f.tm) (.bool f.fm) (.slice da f.D.length dc) (.int .i64 f.kind) (.int .i64 f.nr) (.int .i64 f.ns) (.bool f.pf) (.int .i64 f.pid) (.string f.info))
  exact bodyPost_ret (v := .tuple #[fiV f da dc, .bool true]) (by simp [results, Tryz.results146, go_sem, S9.k0.cell, S9.k1.cell, S9.k2.cell, S9.k3.cell, S9.k4.cell, S9.k5.cell, S9.k6.cell, S9.k7.cell, S9.k8.cell, S9.k9.cell, S9.k10.cell, S9.k11.cell, S9.k12.cell]) rfl ⟨⟨da, dc, rfl, HEF.out⟩, HBF.out⟩
end Go.Proofs.YtgoaepjjegblnaaGreatDoor
