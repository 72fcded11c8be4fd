/-
The landed link: Take of what takeCall takes.
The landed code's Next.
The landed code's Done: whether all have sent a frame.
-/
import Derived.Test.YtgoaepjjegblnaaGreatDoorMix34
import Derived.Test.YtgoaepjjegblnaaGreatDoorMix39
import Derived.Test.YtgoaepjjegblnaaGreatDoorMix04
import Derived.Test.YtgoaepjjegblnaaGreatDoorMix02
import Derived.Lib.SmallJoins
import Derived.Lib.ItoaNum
import Derived.Lib.QuietBelow
import Derived.Lib.IndexBytes
import Derived.IntWalk
import Derived.Test.YtgoaepjjegblnaaGreatDoorMix24
namespace Go.Proofs.YtgoaepjjegblnaaGreatDoor
open Go.RowKit Go.Sort
set_option maxRecDepth 20000
set_option maxHeartbeats 4000000 in
theorem ctakeCall6 (w : World) (p : Nat) (s : Lk) (F : Nat → Prop) (f : Fi) (a : Option Addr) (c : Nat) (h : LkL w p s F) (hk : f.kind = 6) (hD : f.D.length ≤ 1000) (hE : EntsAt w a c f.D) (hw : wrongF ((f.tb, f.tn, f.tm) :: (f.fb, f.fn, f.fm) :: f.D) f.kind f.nr f.ns s.isWide f.pid f.info.size = 0) (hf : rightP ((f.tb, f.tn, f.tm) :: (f.fb, f.fn, f.fm) :: f.D) = true) (hc : s.can.ok = true) :
    Calls Tryz.prog 33 #[ptr20 p, fiV f a c] w (OTo w p F (s.takeCall noO f).1 (s.takeCall noO f).2 fun v => v) := by
  obtain ⟨w1, hw1⟩ : ∃ w1, w1 = w.alloc (.cells #[.string f.tb, .int .i64 f.tn, .string f.fb, .int .i64 f.fn, .bool f.tm, .bool f.fm, .slice a f.D.length c, .int .i64 f.kind, .int .i64 f.nr, .int .i64 f.ns, .bool f.pf, .int .i64 f.pid, .string f.info] 74) := ⟨_, rfl⟩
  obtain ⟨w2, hw2⟩ : ∃ w2, w2 = w1.alloc (.cells #[.slice none 0 0, .slice none 0 0, .bool false] 50) := ⟨_, rfl⟩
  obtain ⟨w3, hw3⟩ : ∃ w3, w3 = w2.alloc (.cells #[.slice none 0 0, .slice none 0 0, .bool false] 50) := ⟨_, rfl⟩
  have hb1 : Below w.heap.size w w1 := by rw [hw1]; exact (Below.refl _ w).alloc (Nat.le_refl _) _
  have hb2 : Below w.heap.size w w2 := by rw [hw2]; exact hb1.alloc hb1.size _
  have hb3 : Below w.heap.size w w3 := by rw [hw3]; exact hb2.alloc hb2.size _
  have hs1 : w1.heap.size = w.heap.size + 1 := by rw [hw1]; simp
  have hs2 : w2.heap.size = w.heap.size + 1 + 1 := by rw [hw2, World.alloc]; simp [hs1]
  have hf3 : RowAt w3 w.heap.size (fiCells f a c) := by rw [hw3, hw2, hw1]; exact ((RowAt.new w w.heap.size rfl (fiCells f a c) 74).alloc _).alloc _
  have hr3 : RowAt w3 (w.heap.size + 1) [.slice none 0 0, .slice none 0 0, .bool false] := by rw [hw3, hw2]; exact (RowAt.new w1 (w.heap.size + 1) hs1.symm [.slice none 0 0, .slice none 0 0, .bool false] 50).alloc _
  have hO3 : OtL w3 w2.heap.size noO (fun k => k = w2.heap.size) := by rw [hw3]; exact OtL.new w2 false
  have hL3 := h.below hb3
  have hLO : LO w3 p w2.heap.size s noO (fun k => F k ∨ k = w2.heap.size) := ⟨F, _, hL3, hO3, ⟨fun k hk e => by have := h.mem k hk; omega, fun k hk => by omega⟩, rfl⟩
  have hRan : Ran w p w2.heap.size (w.heap.size + 1) F (fun k => F k ∨ k = w2.heap.size) w3 := ⟨(Turn.refl F w).then_ hb3, fun k hk => hk.imp id fun e => by omega, by omega, by omega, by omega, hr3, fun hk => hk.elim (fun hk => by have := h.mem _ hk; omega) fun e => by omega⟩
  rw [hs2] at hLO hRan
  have HLO := Lib.hid hLO
  have HRAN := Lib.hid hRan
  have HF3 := Lib.hid hf3
  have HE2 := Lib.hid (hE.below hb3)
  have HAR := Lib.hid (fun (W : World) (H1 : Nat → Prop) (h1 : LO W p (w.heap.size + 1 + 1) s noO H1) (hE1 : EntsAt W a c f.D) => ctakeCall20 W p (w.heap.size + 1 + 1) s noO H1 f a c h1 hf hE1 hc (by simp [noO]) (by simp [noO]))
  have HD := Lib.hid (fun (W : World) (H1 : Nat → Prop) (s2 : Lk) (o2 : Ot) (hr : Ran w p (w.heap.size + 1 + 1) (w.heap.size + 1) F H1 W) (h1 : LO W p (w.heap.size + 1 + 1) s2 o2 H1) => hr.done (fin := fun v => v) h1)
  have HWI := Lib.hid (fun W (hb : Below w3.heap.size w3 W) => (cwide20 (hL3.below hb)).mono fun e w' (hq : e = .returned (.bool s.isWide) ∧ w' = W) => show e = .returned (.bool s.isWide) ∧ Below W.heap.size W w' from ⟨hq.1, hq.2 ▸ Below.refl _ _⟩)
  have hri := fun W (hb : Below w3.heap.size w3 W) => fright_any f.tb f.fb f.tn f.fn f.tm f.fm a c f.D f.kind f.nr f.ns f.pf f.pid f.info s.isWide W hD ((hE.below hb3).below hb)
  rw [decide_eq_true hw] at hri
  have HRI := Lib.hid hri
  obtain ⟨r, hre⟩ : ∃ r, r = s.takeCall noO f := ⟨_, rfl⟩
  rw [← hre] at HAR ⊢
  have d13 : (f.kind == 13) = false := by rw [hk]; decide
  have d6 : (f.kind == 6) = true := by rw [hk]; decide
  clear h hk hD hE hw hf hc hb1 hb2 hb3 hs1 hs2 hf3 hr3 hO3 hL3 hLO hRan hri hre
  generalize s.isWide = wi at *
  go_enter Tryz.func33, Tryz.ntmps33
  go_upto_region 2 with fail
  rw [← hw1, ← hw2, ← hw3]
  clear hw1 hw2 hw3
  have z0 := fun d os => cell_regrown (HF3.out.cell 0 rfl) d os
  have z1 := fun d os => cell_regrown (HF3.out.cell 1 rfl) d os
  have z2 := fun d os => cell_regrown (HF3.out.cell 2 rfl) d os
  have z3 := fun d os => cell_regrown (HF3.out.cell 3 rfl) d os
  have z4 := fun d os => cell_regrown (HF3.out.cell 4 rfl) d os
  have z5 := fun d os => cell_regrown (HF3.out.cell 5 rfl) d os
  have z6 := fun d os => cell_regrown (HF3.out.cell 6 rfl) d os
  have z7 := fun d os => cell_regrown (HF3.out.cell 7 rfl) d os
  have z8 := fun d os => cell_regrown (HF3.out.cell 8 rfl) d os
  have z9 := fun d os => cell_regrown (HF3.out.cell 9 rfl) d os
  have z10 := fun d os => cell_regrown (HF3.out.cell 10 rfl) d os
  have z11 := fun d os => cell_regrown (HF3.out.cell 11 rfl) d os
  have z12 := fun d os => cell_regrown (HF3.out.cell 12 rfl) d os
  refine wp_region_quiet_below (by kernel_rfl) (by kernel_rfl) ?_
  repeat (go_big_quiet_step (first
    | (go_at_call 36; with_reducible exact Calls.regrown_of (HWI.out _ (below_regrown _ _ _)))
    | (go_at_call 78; with_reducible exact Calls.regrown_of (HRI.out _ (below_regrown _ _ _)))))
  refine wpQuiet_nil ?_
  intro _ hw'
  obtain ⟨pg, hw''⟩ := hw'
  subst hw''
  clear z0 z1 z2 z3 z4 z5 z6 z7 z8 z9 z10 z11 z12
  have HB5 := Lib.hid (below_regrown w3 pg.d pg.os)
  generalize grow (redrawn w3 pg.d) pg.os = w5 at *
  have HL5 := Lib.hid (HLO.out.below HB5.out)
  have HR5 := Lib.hid (HRAN.out.turned (Turn.of_below HB5.out) (Grew.refl _ _))
  have hf5 := HF3.out.below HB5.out
  have x0 := hf5.cell 0 rfl
  have x1 := hf5.cell 1 rfl
  have x2 := hf5.cell 2 rfl
  have x3 := hf5.cell 3 rfl
  have x4 := hf5.cell 4 rfl
  have x5 := hf5.cell 5 rfl
  have x6 := hf5.cell 6 rfl
  have x7 := hf5.cell 7 rfl
  have x8 := hf5.cell 8 rfl
  have x9 := hf5.cell 9 rfl
  have x10 := hf5.cell 10 rfl
  have x11 := hf5.cell 11 rfl
  have x12 := hf5.cell 12 rfl
  clear hf5 HLO HRAN HWI HRI
  go_upto_region 25 with (first
    | (go_at_call 80; (with_reducible refine (HAR.out _ _ HL5.out (HE2.out.below HB5.out)).mono ?_); rintro e w4 ⟨rfl, H4, k1, k2, k3⟩; have HL9 := Lib.hid k1; have HR9 := Lib.hid (HR5.out.turned k2 k3); clear k1 k2 k3))
  clear x0 x1 x2 x3 x4 x5 x6 x7 x8 x9 x10 x11 x12
  obtain ⟨fv, ev, hrow, hres, hto, ⟨fa, fn, fc, rfl⟩, ⟨ea, en, ec, rfl⟩⟩ := HD.out _ _ _ _ HR9.out HL9.out
  have q0 := hrow.cell 0 rfl
  have q1 := hrow.cell 1 rfl
  have q2 := hrow.cell 2 rfl
  obtain ⟨r0, s0, -⟩ := HR9.out.res.get 0 rfl
  obtain ⟨r1, s1, -⟩ := HR9.out.res.get 1 rfl
  obtain ⟨r2, s2, -⟩ := HR9.out.res.get 2 rfl
  have HTO := Lib.hid hto
  have HRES := Lib.hid hres
  clear hrow hres hto
  go_wp2_with fail
  exact bodyPost_ret (v := ouV (.slice fa fn fc) (.slice ea en ec) r.2.fresh) (by simp [results, Tryz.results33, go_sem, ouV, HRES.out.cell 0 rfl, HRES.out.cell 1 rfl, HRES.out.cell 2 rfl]) rfl HTO.out
end Go.Proofs.YtgoaepjjegblnaaGreatDoor
namespace Go.Proofs.YtgoaepjjegblnaaGreatDoor
open Go.RowKit Go.Sort
set_option maxRecDepth 20000
/-- what Next answers -/
def nextV (D : List Ent) : Value := match D[fstD D]? with | some e => .tuple #[.agg #[.string e.1, .int .i64 e.2.1], .bool true] | none => .tuple #[.agg #[.string ⟨#[]⟩, .int .i64 0], .bool false]
set_option maxHeartbeats 1000000 in
theorem next_any (tb fb : ByteArray) (tn fn : Int) (tm fm : Bool) (a : Option Addr) (cap : Nat) (D : List Ent) (w : World) (hD : D.length ≤ 1000) (hE : EntsAt w a cap D) (hS : ∀ e ∈ D, e.1.size ≤ 140737488351232) :
    Calls Tryz.prog 224 #[.agg #[.string tb, .int .i64 tn, .string fb, .int .i64 fn, .bool tm, .bool fm, .slice a D.length cap]] w fun e w' => e = .returned (nextV D) ∧ Below w.heap.size w w' := by
  obtain ⟨W1, hW1⟩ : ∃ W1, W1 = w.alloc (.cells #[.string tb, .int .i64 tn, .string fb, .int .i64 fn, .bool tm, .bool fm, .slice a D.length cap] 57) := ⟨_, rfl⟩
  have hs1 : w.heap.size + 1 = W1.heap.size := by rw [hW1]; simp
  have HP := Lib.hid (show P7 (W1.alloc (.cells #[.string ⟨#[]⟩, .int .i64 0] 54)) w.heap.size _ _ _ _ _ _ _ from by rw [hW1]; exact (P7.new w _ rfl _ _ _ _ _ _ _ _).alloc _)
  have HR := Lib.hid (show KeepAt (W1.alloc (.cells #[.string ⟨#[]⟩, .int .i64 0] 54)) (w.heap.size + 1) 0 (.string ⟨#[]⟩) ∧ KeepAt (W1.alloc (.cells #[.string ⟨#[]⟩, .int .i64 0] 54)) (w.heap.size + 1) 1 (.int .i64 0) from by
    rw [hs1]
    exact ⟨⟨World.cell?_alloc_at _ _ _ _ rfl, World.frozen?_alloc_at _ _ _ _ rfl, by simp⟩, ⟨World.cell?_alloc_at _ _ _ _ rfl, World.frozen?_alloc_at _ _ _ _ rfl, by simp⟩⟩)
  have HB0 := Lib.hid (show Below w.heap.size w (W1.alloc (.cells #[.string ⟨#[]⟩, .int .i64 0] 54)) from by rw [hW1]; exact ((Below.refl _ w).alloc (Nat.le_refl _) _).alloc (by simp) _)
  have HFI := Lib.hid (fun W (h : Below w.heap.size w W) => first_any a cap D W hD (hE.below h))
  have HE := Lib.hid (fun W (h : Below w.heap.size w W) => hE.below h)
  have hle := fstD_le D
  have HSS := Lib.hid hS
  clear hE hs1 hS
  subst hW1
  obtain ⟨f, hf⟩ : ∃ f, f = fstD D := ⟨_, rfl⟩
  obtain ⟨V, hV⟩ : ∃ V, V = nextV D := ⟨_, rfl⟩
  have hVV := hV
  unfold nextV at hVV
  rw [← hf] at HFI hle hVV
  rw [← hV]
  clear hf hV
  by_cases hlt : f < D.length
  · rw [List.getElem?_eq_getElem hlt] at hVV
    have HSK := Lib.hid (HSS.out D[f] (List.getElem_mem hlt))
    have HCK := Lib.hid (fun W (h : Below w.heap.size w W) => (HE.out W h).at_ f hlt)
    have ef : ((f : Int) == (D.length : Int)) = false := by rw [beq_eq_false_iff_ne]; omega
    generalize D[f] = d at *
    obtain ⟨db, dn, dm⟩ := d
    simp only at hVV HSK HCK
    subst hVV
    obtain ⟨g, o, rfl, -, -, -, -⟩ := HCK.out w (Below.refl _ _)
    have HAN := Lib.hid (fun W => anew_any db dn W HSK.out)
    go_enter Tryz.func224, Tryz.ntmps224
    go_wp2_with (first
      | (go_at_call 167; (with_reducible refine (HFI.out _ HB0.out).mono ?_); rintro e w1 ⟨rfl, hb⟩; have HB := Lib.hid (HB0.out.trans (hb.mono HB0.out.size)); have HP1 := Lib.hid (HP.out.below hb); have HR1 := Lib.hid (And.intro (HR.out.1.below hb) (HR.out.2.below hb)); clear hb; obtain ⟨p6, -, pl⟩ := HP1.out.k6; obtain ⟨g', o', ha, hg, c0, c1, -⟩ := HCK.out _ HB.out; simp only [Option.some.injEq, Addr.mk.injEq, and_true] at ha; obtain ⟨rfl, rfl⟩ := ha)
      | (go_at_call 128; (with_reducible refine (HAN.out _).mono ?_); rintro e w2 ⟨rfl, hb⟩; replace HB := Lib.hid (HB.out.trans (hb.mono HB.out.size)); have HR2 := Lib.hid (And.intro (HR1.out.1.below hb) (HR1.out.2.below hb)); clear hb; obtain ⟨⟨r0, s0, rl⟩, ⟨r1, s1, -⟩⟩ := HR2.out))
    obtain ⟨z0, z1⟩ := stored2 (W := w2) (.string db) (.int .i64 dn) r0 r1
    exact bodyPost_ret (v := .tuple #[.agg #[.string db, .int .i64 dn], .bool true]) (by simp [results, Tryz.results224, go_sem, z0, z1]) rfl ⟨rfl, set2_below HB.out (by omega) _ _⟩
  · obtain rfl : f = D.length := by omega
    rw [List.getElem?_eq_none (Nat.le_refl _)] at hVV
    simp only at hVV
    subst hVV
    have ef : ((D.length : Int) == (D.length : Int)) = true := beq_self_eq_true _
    go_enter Tryz.func224, Tryz.ntmps224
    go_wp2_with (go_at_call 167; (with_reducible refine (HFI.out _ HB0.out).mono ?_); rintro e w1 ⟨rfl, hb⟩; have HB := Lib.hid (HB0.out.trans (hb.mono HB0.out.size)); have HP1 := Lib.hid (HP.out.below hb); have HR1 := Lib.hid (And.intro (HR.out.1.below hb) (HR.out.2.below hb)); clear hb; obtain ⟨p6, -, pl⟩ := HP1.out.k6; obtain ⟨⟨r0, s0, rl⟩, ⟨r1, s1, -⟩⟩ := HR1.out)
    obtain ⟨z0, z1⟩ := stored2 (W := w1) (.string ⟨#[]⟩) (.int .i64 0) r0 r1
    exact bodyPost_ret (v := .tuple #[.agg #[.string ⟨#[]⟩, .int .i64 0], .bool false]) (by simp [results, Tryz.results224, go_sem, z0, z1]) rfl ⟨rfl, set2_below HB.out (by omega) _ _⟩
end Go.Proofs.YtgoaepjjegblnaaGreatDoor
namespace Go.Proofs.YtgoaepjjegblnaaGreatDoor
open Go.RowKit Go.Sort
set_option maxRecDepth 20000
set_option maxHeartbeats 1000000 in
theorem done_any (tb fb : ByteArray) (tn fn : Int) (tm fm : Bool) (a : Option Addr) (cap : Nat) (D : List Ent) (k nr ns : Int) (pf : Bool) (pid : Int) (info : ByteArray) (w : World) (hD : D.length ≤ 1000) (hE : EntsAt w a cap D) (hS : ∀ e ∈ D, e.1.size ≤ 140737488351232) :
    Calls Tryz.prog 190 #[.agg #[.string tb, .int .i64 tn, .string fb, .int .i64 fn, .bool tm, .bool fm, .slice a D.length cap, .int .i64 k, .int .i64 nr, .int .i64 ns, .bool pf, .int .i64 pid, .string info]] w fun e w' => e = .returned (.bool (decide (¬ fstD D < D.length))) ∧ Below w.heap.size w w' := by
  have HB0 := Lib.hid ((Below.refl _ w).alloc (Nat.le_refl _) (.cells #[.string tb, .int .i64 tn, .string fb, .int .i64 fn, .bool tm, .bool fm, .slice a D.length cap, .int .i64 k, .int .i64 nr, .int .i64 ns, .bool pf, .int .i64 pid, .string info] 74))
  have hn := fun W (h : Below w.heap.size w W) => next_any tb fb tn fn tm fm a cap D W hD (hE.below h) hS
  unfold nextV at hn
  by_cases h : fstD D < D.length
  · rw [List.getElem?_eq_getElem h] at hn
    dsimp only at hn
    have e : decide (¬ fstD D < D.length) = false := decide_eq_false (fun q => q h)
    rw [e]
    generalize D[fstD D] = x at *
    obtain ⟨xb, xn, xm⟩ := x
    dsimp only at hn
    have HN := Lib.hid hn
    clear hn hE hS h e
    go_enter Tryz.func190, Tryz.ntmps190
    go_wp2_with (go_at_call 224; (with_reducible refine (HN.out _ HB0.out).mono ?_); rintro e w1 ⟨rfl, hb⟩; have hb1 := HB0.out.trans (hb.mono HB0.out.size); have HB := Lib.hid (hb1.alloc hb1.size (.cells #[.string xb, .int .i64 xn] 54)); clear hb hb1)
    go_ret
    exact ⟨rfl, HB.out⟩
  · rw [List.getElem?_eq_none (by omega)] at hn
    dsimp only at hn
    have e : decide (¬ fstD D < D.length) = true := decide_eq_true h
    rw [e]
    have HN := Lib.hid hn
    clear hn hE hS h e
    go_enter Tryz.func190, Tryz.ntmps190
    go_wp2_with (go_at_call 224; (with_reducible refine (HN.out _ HB0.out).mono ?_); rintro e w1 ⟨rfl, hb⟩; have hb1 := HB0.out.trans (hb.mono HB0.out.size); have HB := Lib.hid (hb1.alloc hb1.size (.cells #[.string ⟨#[]⟩, .int .i64 0] 54)); clear hb hb1)
    go_ret
    exact ⟨rfl, HB.out⟩
end Go.Proofs.YtgoaepjjegblnaaGreatDoor
