/-
The landed link: SABM, SABME.
-/
import Derived.Test.YtgoaepjjegblnaaGreatDoorMix31
import Derived.Test.YtgoaepjjegblnaaGreatDoorMix33
namespace Go.Proofs.YtgoaepjjegblnaaGreatDoor
open Go.RowKit
set_option maxRecDepth 20000
def backW (f : Fi) : Wy := ⟨f.fb, f.fn, f.tb, f.tn, callsD (revD f.D)⟩
theorem back_ok {f : Fi} (h : rightP ((f.tb, f.tn, f.tm) :: (f.fb, f.fn, f.fm) :: f.D) = true) : (backW f).ok := by
  have h' : rightP ((f.fb, f.fn, true) :: (f.tb, f.tn, false) :: f.D) = true := by
    rw [right_cons, Bool.and_eq_true, Bool.and_eq_true, List.all_eq_true] at h ⊢
    refine ⟨h.1, fun e he => ?_⟩
    rcases List.mem_cons.1 he with rfl | he
    · exact h.2 (f.fb, f.fn, f.fm) (by simp)
    · rcases List.mem_cons.1 he with rfl | he
      · exact h.2 (f.tb, f.tn, f.tm) (by simp)
      · exact h.2 e (by simp [he])
  have h2 := right_fresh (x := (f.fb, f.fn, true)) (y := (f.tb, f.tn, false)) h'
  unfold Wy.ok backW at *
  rw [right_cons, Bool.and_eq_true, Bool.and_eq_true, List.all_eq_true] at h2 ⊢
  have hmem : ∀ e, e ∈ freshD (callsD (revD f.D)) ↔ e ∈ freshD (callsD f.D) := fun e => by
    simp only [freshD, callsD, revD, List.mem_map, List.mem_reverse]
    constructor
    · rintro ⟨c, ⟨d, ⟨g, hg, rfl⟩, rfl⟩, rfl⟩
      exact ⟨_, ⟨g, hg, rfl⟩, rfl⟩
    · rintro ⟨c, ⟨d, hd, rfl⟩, rfl⟩
      exact ⟨_, ⟨_, ⟨d, hd, rfl⟩, rfl⟩, rfl⟩
  refine ⟨⟨?_, ?_⟩, fun e he => ?_⟩
  · have := of_decide_eq_true h2.1.1
    exact decide_eq_true (by simpa [freshD, callsD, revD] using this)
  · unfold ordD
    rw [List.all_eq_true]
    intro e he
    have := (hmem e).1 (List.mem_of_mem_drop he)
    simp only [freshD, callsD, List.mem_map] at this
    obtain ⟨c, -, rfl⟩ := this
    rfl
  · rcases List.mem_cons.1 he with rfl | he
    · exact h2.2 _ (by simp)
    · rcases List.mem_cons.1 he with rfl | he
      · exact h2.2 _ (by simp)
      · exact h2.2 e (by simp [(hmem e).1 he])
def wayP (x : Px) (da : Option Addr) (dc : Nat) : Px := { x with wa := da, wc := dc }
theorem way_done {w w1 w' : World} {p : Nat} {x : Px} {s : Lk} {P : Nat → Nat → Prop} (h : LkAt w p x s P) (y : Wy) {da : Option Addr} {dc : Nat} (hb : Below w.heap.size w w1) (hE : EntsAt w1 da dc (freshD y.D)) (hq : ∀ q, da = some q → w.heap.size ≤ q.block ∧ q.block < w1.heap.size)
    (hr : RowAt w' p (lkRow (wayP x da dc) { s with way := y })) (ht : Turn (fun k => k = p) w1 w') :
    LkAt w' p (wayP x da dc) { s with way := y } (updP P 8 fun k => ∃ q, da = some q ∧ q.block = k) ∧ Turn (footK p P) w w' ∧ Grew (footK p P) (footK p (updP P 8 fun k => ∃ q, da = some q ∧ q.block = k)) w := by
  have hpw := h.lt
  have hG : ∀ i, Grew (P i) (updP P 8 (fun k => ∃ q, da = some q ∧ q.block = k) i) w := fun i => by
    unfold updP
    split
    · rintro k ⟨q, e, rfl⟩
      exact Or.inr (hq q e).1
    · exact Grew.refl _ _
  have hsz := hb.size
  have keep : ∀ i, Cp x s i w (P i) → Cp x s i w' (P i) := fun i hc => (hc.stay (SameOn.of_below hb (h.comp i).mem)).stay ⟨ht.size, fun k hk => ht.block k (by have := (h.comp i).mem k hk; omega) fun e => h.off i (e ▸ hk)⟩
  refine ⟨h.move hr (fun i => ?_) hG (fun i j k hk hi hj => ?_), ⟨ht.os.trans hb.os, ht.tape.trans hb.tape, ht.output.trans hb.output, Nat.le_trans hsz ht.size, fun k hk hF => (ht.block k (by omega) fun e => hF (Or.inl e)).trans (hb.block k hk)⟩, foot_grew hG⟩
  · match i with
    | 0 => exact keep 0 (h.comp 0)
    | 1 => exact keep 1 (h.comp 1)
    | 2 => exact keep 2 (h.comp 2)
    | 3 => exact keep 3 (h.comp 3)
    | 4 => exact keep 4 (h.comp 4)
    | 5 => exact keep 5 (h.comp 5)
    | 6 => exact keep 6 (h.comp 6)
    | 7 => exact keep 7 (h.comp 7)
    | 8 => exact ⟨hE.same (fun q e => ht.block _ (hq q e).2 fun e' => by have := (hq q e).1; omega) ht.size, fun q e => Nat.lt_of_lt_of_le (hq q e).2 ht.size, rfl⟩
    | i + 9 => exact keep (i + 9) (h.comp (i + 9))
  · have old : ∀ a, a ≠ 8 → ¬ updP P 8 (fun k => ∃ q, da = some q ∧ q.block = k) a k := fun a ea ha => by
      rw [updP_off _ ea] at ha
      have := (h.comp a).mem k ha
      omega
    by_cases e1 : i = 8
    · by_cases e2 : j = 8
      · rw [e1, e2]
      · exact absurd hj (old j e2)
    · exact absurd hi (old i e1)
def Lk.takeCall (s : Lk) (o : Ot) (f : Fi) : Lk × Ot :=
  let s1 : Lk := { s with way := backW f }
  if (f.kind = 7 ∧ s.can.wide = false) ∨ s.state = 4 then (s1, s1.answer o f 9)
  else if s.state = 2 ∧ f.kind = s.asks then (s1, s1.answer o f 10)
  else if s.state = 2 ∧ f.kind = 7 then (s1, o)
  else s1.rise (s1.answer o f 10) (decide (f.kind = 7))
set_option maxHeartbeats 4000000 in
theorem ctakeCall20 (w : World) (p q : Nat) (s : Lk) (o : Ot) (H : Nat → Prop) (f : Fi) (a : Option Addr) (c : Nat) (h : LO w p q s o H) (hf : rightP ((f.tb, f.tn, f.tm) :: (f.fb, f.fn, f.fm) :: f.D) = true) (hE : EntsAt w a c f.D) (hc : s.can.ok = true) (hm : o.frames.length ≤ 1000) (hm2 : o.events.length ≤ 1000) :
    Calls Tryz.prog 80 #[ptr20 p, ptr20 q, fiV f a c] w (LOTo w p q H (s.takeCall o f).1 (s.takeCall o f).2 (.tuple #[])) := by
  have hw : (backW f).ok := back_ok hf
  obtain ⟨h8, hsz⟩ := right_small hf
  obtain ⟨w1, hw1⟩ : ∃ w1, w1 = w.alloc (.cells #[.string f.tb, .int .i64 f.tn, .string f.fb, .int .i64 f.fn, .bool f.tm, .bool f.fm, .slice a f.D.length c, .int .i64 f.kind, .int .i64 f.nr, .int .i64 f.ns, .bool f.pf, .int .i64 f.pid, .string f.info] 74) := ⟨_, rfl⟩
  have hb1 : Below w.heap.size w w1 := by rw [hw1]; exact (Below.refl _ w).alloc (Nat.le_refl _) _
  have hr1 : RowAt w1 w.heap.size (fiCells f a c) := by rw [hw1]; exact RowAt.new w w.heap.size rfl (fiCells f a c) 74
  obtain ⟨F, G, ⟨x, P, hL, hF⟩, hO, ha, hH⟩ := h
  have HL := Lib.hid hL
  have HLO := Lib.hid (fun (w' : World) (s' : Lk) (F' : Nat → Prop) (h' : LkL w' p s' F') (ht : Turn F w w') (hg : Grew F F' w) => LO.link (o := o) hO ha hH h' ht hg)
  have HF := Lib.hid hF
  have HB1 := Lib.hid hb1
  have HR1 := Lib.hid hr1
  have HBK := Lib.hid (fun W (hb : Below w.heap.size w W) => cback_any f.tb f.fb f.tn f.fn f.tm f.fm a c f.D W (by omega) (hE.below hb) (by have := hsz (f.tb, f.tn, f.tm) (by simp); simp only at this; omega) (by have := hsz (f.fb, f.fn, f.fm) (by simp); simp only at this; omega) (fun e he => by have := hsz e (by simp [he]); omega))
  have HAL := Lib.hid (fun W tm' fm' da dc (h : EntsAt W da dc (revD f.D)) => along_any f.fb f.tb f.fn f.tn tm' fm' true da dc (revD f.D) W h hw)
  rw [show (!true) = false from rfl] at HAL
  have HLC := Lib.hid (show (callsD (revD f.D)).length = (revD f.D).length by simp [callsD])
  have HWO := Lib.hid hw
  have HCK := Lib.hid hc
  have HM1 := Lib.hid hm
  have HM2 := Lib.hid hm2
  have c0 := hr1.cell 0 rfl
  have c1 := hr1.cell 1 rfl
  have c2 := hr1.cell 2 rfl
  have c3 := hr1.cell 3 rfl
  have c4 := hr1.cell 4 rfl
  have c5 := hr1.cell 5 rfl
  have c6 := hr1.cell 6 rfl
  obtain ⟨r, hr⟩ : ∃ r, r = s.takeCall o f := ⟨_, rfl⟩
  rw [← hr]
  have HRR := Lib.hid hr
  clear hw h8 hsz hb1 hr1 hL hF hO ha hH hf hE hc hm hm2 hr
  go_enter Tryz.func80, Tryz.ntmps80
  go_upto_region 1 with fail
  rw [← hw1]
  clear hw1
  go_upto_region 2 with (first
    | (go_at_call 133; (with_reducible refine (HBK.out _ HB1.out).mono ?_); rintro e w2 ⟨⟨db, dcb, rfl, hEB⟩, hb⟩; have HEB := Lib.hid hEB; have HB2 := Lib.hid (HB1.out.trans (hb.mono HB1.out.size)); have HR2 := Lib.hid (HR1.out.below hb); have HZ2 := Lib.hid hb.size; clear hEB hb c0 c1 c2 c3 c4 c5 c6)
    | (go_at_call 67; (with_reducible refine (HAL.out _ _ _ _ _ HEB.out).mono ?_); rintro e w3 ⟨⟨da, dc, rfl, hEA, hge⟩, hb⟩; rw [← HLC.out]; have HEA := Lib.hid hEA; have HB3 := Lib.hid (HB2.out.trans (hb.mono HB2.out.size)); have HR3 := Lib.hid (HR2.out.below hb); have HGE := Lib.hid (show ∀ q, da = some q → w.heap.size ≤ q.block ∧ q.block < w3.heap.size from fun q e => ⟨Nat.le_trans HB2.out.size (hge q e).1, (hge q e).2⟩); have hl3 := HL.out.row.below (HB2.out.trans (hb.mono HB2.out.size)); have HRL := Lib.hid hl3; obtain ⟨x0, y0, -⟩ := hl3.get 16 rfl; obtain ⟨x1, y1, -⟩ := hl3.get 17 rfl; obtain ⟨x2, y2, -⟩ := hl3.get 18 rfl; obtain ⟨x3, y3, -⟩ := hl3.get 19 rfl; obtain ⟨x4, y4, -⟩ := hl3.get 20 rfl; obtain ⟨x5, y5, -⟩ := hl3.get 21 rfl; obtain ⟨x6, y6, -⟩ := hl3.get 22 rfl; clear hEA hge hb hl3))
  have hW := Rw.set (Rw.set (Rw.set (Rw.set (Rw.set (Rw.set (Rw.set (Rw.start HRL.out) 16 (.string f.fb)) 17 (.int .i64 f.fn)) 18 (.string f.tb)) 19 (.int .i64 f.tn)) 20 (.bool true)) 21 (.bool false)) 22 (.slice da (callsD (revD f.D)).length dc)
  obtain ⟨k1, k2, k3⟩ := way_done HL.out (backW f) HB3.out HEA.out HGE.out hW.row hW.turn
  obtain ⟨H4, l1, l2, l3⟩ := HLO.out _ _ _ ⟨_, _, k1, rfl⟩ (HF.out ▸ k2) (HF.out ▸ k3)
  have hpw : p < w.heap.size := HL.out.lt
  have HR4 := Lib.hid (HR3.out.turn hW.turn (by omega))
  have HL4 := Lib.hid l1
  have HT4 := Lib.hid l2
  have HG4 := Lib.hid l3
  clear x0 x1 x2 x3 x4 x5 x6 y0 y1 y2 y3 y4 y5 y6 hW k1 k2 k3 l1 l2 l3 hpw HRL HR3 HR2 HR1 HB3 HB2 HB1 HEA HEB HGE HZ2 HL HLO HF HBK HAL HLC
  generalize (((((((w3.setCell ⟨p, 16, none⟩ (.string f.fb)).setCell ⟨p, 17, none⟩ (.int .i64 f.fn)).setCell ⟨p, 18, none⟩ (.string f.tb)).setCell ⟨p, 19, none⟩ (.int .i64 f.tn)).setCell ⟨p, 20, none⟩ (.bool true)).setCell ⟨p, 21, none⟩ (.bool false)).setCell ⟨p, 22, none⟩ (.slice da (callsD (revD f.D)).length dc)) = w4 at *
  obtain ⟨s1, hs1⟩ : ∃ s1 : Lk, s1 = { s with way := backW f } := ⟨_, rfl⟩
  rw [← hs1] at HL4
  have c41 : w4.cell? ⟨p, 41, none⟩ = some (.int .i64 s.state) := (HL4.out.get 41 (fun _ => by rw [hs1]; rfl)).1
  have c42 : w4.cell? ⟨p, 42, none⟩ = some (.int .i64 s.asks) := (HL4.out.get 42 (fun _ => by rw [hs1]; rfl)).1
  have c23 : w4.cell? ⟨p, 23, none⟩ = some (.bool s.can.wide) := (HL4.out.get 23 (fun _ => by rw [hs1]; rfl)).1
  have e0 := HR4.out.cell 0 rfl
  have e1 := HR4.out.cell 1 rfl
  have e2 := HR4.out.cell 2 rfl
  have e3 := HR4.out.cell 3 rfl
  have e4 := HR4.out.cell 4 rfl
  have e5 := HR4.out.cell 5 rfl
  have e6 := HR4.out.cell 6 rfl
  have e7 := HR4.out.cell 7 rfl
  have e8 := HR4.out.cell 8 rfl
  have e9 := HR4.out.cell 9 rfl
  have e10 := HR4.out.cell 10 rfl
  have e11 := HR4.out.cell 11 rfl
  have e12 := HR4.out.cell 12 rfl
  have hs1w : s1.way.ok := by rw [hs1]; exact HWO.out
  have hs1c : s1.can.ok = true := by rw [hs1]; exact HCK.out
  have HAN := Lib.hid (fun W (hb : Below w4.heap.size w4 W) kind => canswer20 W p q s1 o H4 f a c kind (HL4.out.below hb) hs1w hs1c HM1.out)
  have HRI := Lib.hid (fun W (H1 : Nat → Prop) (h1 : LO W p q s1 (s1.answer o f 10) H1) => crise20 W p q s1 (s1.answer o f 10) H1 (decide (f.kind = 7)) h1 (fit_ok _ hs1c) HM2.out)
  have HRS := Lib.hid (show r = (if (f.kind = 7 ∧ s.can.wide = false) ∨ s.state = 4 then (s1, s1.answer o f 9) else if s.state = 2 ∧ f.kind = s.asks then (s1, s1.answer o f 10) else if s.state = 2 ∧ f.kind = 7 then (s1, o) else s1.rise (s1.answer o f 10) (decide (f.kind = 7))) by rw [HRR.out, hs1]; rfl)
  clear hs1 hs1w hs1c HR4 HRR HWO HCK
  by_cases h4 : s.state = 4
  · have d4 : (s.state == 4) = true := by simpa using h4
    have d2 : (s.state == 2) = false := by simp [h4]
    have HRE := Lib.hid (show r = (s1, s1.answer o f 9) by rw [HRS.out, if_pos (Or.inr h4)])
    clear h4
    by_cases h7 : f.kind = 7
    · have d7 : (f.kind == 7) = true := by simpa using h7
      clear h7
      go_quiet (fail)
      generalize s.can.wide = cw at *
      cases cw
      · go_wp2_with (go_at_call 130; (with_reducible refine (HAN.out _ (by first | exact Below.refl _ _ | exact (Below.refl _ _).drew | exact below_drewX (Below.refl _ _) _ | exact below_drewX (below_drewX (Below.refl _ _) _) _ | exact (below_drewX (Below.refl _ _) _).drew) _).mono ?_); rintro e w9 ⟨rfl, hq⟩)
        rw [HRE.out]
        exact bodyPost_end (v := .tuple #[]) (by simp [results, Tryz.results80, go_sem]) rfl (LOTo.then_ ⟨rfl, hq⟩ (HT4.out.then_ (by first | exact Below.refl _ _ | exact (Below.refl _ _).drew | exact below_drewX (Below.refl _ _) _ | exact below_drewX (below_drewX (Below.refl _ _) _) _ | exact (below_drewX (Below.refl _ _) _).drew)) HG4.out)
      · go_wp2_with (go_at_call 130; (with_reducible refine (HAN.out _ (by first | exact Below.refl _ _ | exact (Below.refl _ _).drew | exact below_drewX (Below.refl _ _) _ | exact below_drewX (below_drewX (Below.refl _ _) _) _ | exact (below_drewX (Below.refl _ _) _).drew) _).mono ?_); rintro e w9 ⟨rfl, hq⟩)
        rw [HRE.out]
        exact bodyPost_end (v := .tuple #[]) (by simp [results, Tryz.results80, go_sem]) rfl (LOTo.then_ ⟨rfl, hq⟩ (HT4.out.then_ (by first | exact Below.refl _ _ | exact (Below.refl _ _).drew | exact below_drewX (Below.refl _ _) _ | exact below_drewX (below_drewX (Below.refl _ _) _) _ | exact (below_drewX (Below.refl _ _) _).drew)) HG4.out)
    · have d7 : (f.kind == 7) = false := by simpa using h7
      clear h7
      go_quiet (fail)
      go_wp2_with (go_at_call 130; (with_reducible refine (HAN.out _ (by first | exact Below.refl _ _ | exact (Below.refl _ _).drew | exact below_drewX (Below.refl _ _) _ | exact below_drewX (below_drewX (Below.refl _ _) _) _ | exact (below_drewX (Below.refl _ _) _).drew) _).mono ?_); rintro e w9 ⟨rfl, hq⟩)
      rw [HRE.out]
      exact bodyPost_end (v := .tuple #[]) (by simp [results, Tryz.results80, go_sem]) rfl (LOTo.then_ ⟨rfl, hq⟩ (HT4.out.then_ (by first | exact Below.refl _ _ | exact (Below.refl _ _).drew | exact below_drewX (Below.refl _ _) _ | exact below_drewX (below_drewX (Below.refl _ _) _) _ | exact (below_drewX (Below.refl _ _) _).drew)) HG4.out)
  · have d4 : (s.state == 4) = false := by simpa using h4
    by_cases h7 : f.kind = 7
    · have d7 : (f.kind == 7) = true := by simpa using h7
      by_cases hcw : s.can.wide = false
      · have HRE := Lib.hid (show r = (s1, s1.answer o f 9) by rw [HRS.out, if_pos (Or.inl ⟨h7, hcw⟩)])
        rw [hcw] at c23
        obtain ⟨b2, d2⟩ : ∃ b2, (s.state == 2) = b2 := ⟨_, rfl⟩
        clear h4 h7 hcw
        go_quiet (fail)
        go_wp2_with (go_at_call 130; (with_reducible refine (HAN.out _ (by first | exact Below.refl _ _ | exact (Below.refl _ _).drew | exact below_drewX (Below.refl _ _) _ | exact below_drewX (below_drewX (Below.refl _ _) _) _ | exact (below_drewX (Below.refl _ _) _).drew) _).mono ?_); rintro e w9 ⟨rfl, hq⟩)
        rw [HRE.out]
        exact bodyPost_end (v := .tuple #[]) (by simp [results, Tryz.results80, go_sem]) rfl (LOTo.then_ ⟨rfl, hq⟩ (HT4.out.then_ (by first | exact Below.refl _ _ | exact (Below.refl _ _).drew | exact below_drewX (Below.refl _ _) _ | exact below_drewX (below_drewX (Below.refl _ _) _) _ | exact (below_drewX (Below.refl _ _) _).drew)) HG4.out)
      · have hcw' : s.can.wide = true := by simpa using hcw
        rw [hcw'] at c23
        by_cases h2 : s.state = 2
        · have d2 : (s.state == 2) = true := by simpa using h2
          by_cases hk : f.kind = s.asks
          · have dk : (f.kind == s.asks) = true := by simpa using hk
            have HRE := Lib.hid (show r = (s1, s1.answer o f 10) by rw [HRS.out, if_neg (by simp [hcw, h4]), if_pos ⟨h2, hk⟩])
            clear h4 h7 hcw hcw' h2 hk
            go_quiet (fail)
            go_wp2_with fail
            go_big_quiet (fail)
            go_wp2_with (go_at_call 130; (with_reducible refine (HAN.out _ (by first | exact Below.refl _ _ | exact (Below.refl _ _).drew | exact below_drewX (Below.refl _ _) _ | exact below_drewX (below_drewX (Below.refl _ _) _) _ | exact (below_drewX (Below.refl _ _) _).drew) _).mono ?_); rintro e w9 ⟨rfl, hq⟩)
            rw [HRE.out]
            exact bodyPost_end (v := .tuple #[]) (by simp [results, Tryz.results80, go_sem]) rfl (LOTo.then_ ⟨rfl, hq⟩ (HT4.out.then_ (by first | exact Below.refl _ _ | exact (Below.refl _ _).drew | exact below_drewX (Below.refl _ _) _ | exact below_drewX (below_drewX (Below.refl _ _) _) _ | exact (below_drewX (Below.refl _ _) _).drew)) HG4.out)
          · have dk : (f.kind == s.asks) = false := by simpa using hk
            have HRE := Lib.hid (show r = (s1, o) by rw [HRS.out, if_neg (by simp [hcw, h4]), if_neg (by simp [hk]), if_pos ⟨h2, h7⟩])
            clear h4 h7 hcw hcw' h2 hk
            go_quiet (fail)
            go_wp2_with fail
            go_big_quiet (fail)
            go_wp2_with fail
            rw [HRE.out]
            exact bodyPost_end (v := .tuple #[]) (by simp [results, Tryz.results80, go_sem]) rfl ⟨rfl, H4, HL4.out.below (by first | exact Below.refl _ _ | exact (Below.refl _ _).drew | exact below_drewX (Below.refl _ _) _ | exact below_drewX (below_drewX (Below.refl _ _) _) _ | exact (below_drewX (Below.refl _ _) _).drew), HT4.out.then_ (by first | exact Below.refl _ _ | exact (Below.refl _ _).drew | exact below_drewX (Below.refl _ _) _ | exact below_drewX (below_drewX (Below.refl _ _) _) _ | exact (below_drewX (Below.refl _ _) _).drew), HG4.out⟩
        · have d2 : (s.state == 2) = false := by simpa using h2
          have HRE := Lib.hid (show r = s1.rise (s1.answer o f 10) true by rw [HRS.out, if_neg (by simp [hcw, h4]), if_neg (by simp [h2]), if_neg (by simp [h2]), decide_eq_true h7])
          rw [decide_eq_true h7] at HRI
          clear h4 h7 hcw hcw' h2
          go_quiet (fail)
          go_wp2_with fail
          go_big_quiet (fail)
          go_wp2_with (first
            | (go_at_call 130; (with_reducible refine (HAN.out _ (by first | exact Below.refl _ _ | exact (Below.refl _ _).drew | exact below_drewX (Below.refl _ _) _ | exact below_drewX (below_drewX (Below.refl _ _) _) _ | exact (below_drewX (Below.refl _ _) _).drew) _).mono ?_); rintro e w9 ⟨rfl, H9, k1, k2, k3⟩; have HL9 := Lib.hid k1; have HT9 := Lib.hid ((HT4.out.then_ (by first | exact Below.refl _ _ | exact (Below.refl _ _).drew | exact below_drewX (Below.refl _ _) _ | exact below_drewX (below_drewX (Below.refl _ _) _) _ | exact (below_drewX (Below.refl _ _) _).drew)).trans k2 HG4.out); have HG9 := Lib.hid (HG4.out.trans k3 (HT4.out.then_ (by first | exact Below.refl _ _ | exact (Below.refl _ _).drew | exact below_drewX (Below.refl _ _) _ | exact below_drewX (below_drewX (Below.refl _ _) _) _ | exact (below_drewX (Below.refl _ _) _).drew)).size); clear k1 k2 k3)
            | (go_at_call 134; (with_reducible refine (HRI.out _ _ HL9.out).mono ?_); rintro e w10 ⟨rfl, hq⟩))
          rw [HRE.out]
          exact bodyPost_end (v := .tuple #[]) (by simp [results, Tryz.results80, go_sem]) rfl (LOTo.then_ ⟨rfl, hq⟩ HT9.out HG9.out)
    · have d7 : (f.kind == 7) = false := by simpa using h7
      by_cases h2 : s.state = 2
      · have d2 : (s.state == 2) = true := by simpa using h2
        by_cases hk : f.kind = s.asks
        · have dk : (f.kind == s.asks) = true := by simpa using hk
          have HRE := Lib.hid (show r = (s1, s1.answer o f 10) by rw [HRS.out, if_neg (by simp [h7, h4]), if_pos ⟨h2, hk⟩])
          clear h4 h7 h2 hk
          go_quiet (fail)
          go_wp2_with fail
          go_big_quiet (fail)
          go_wp2_with (go_at_call 130; (with_reducible refine (HAN.out _ (by first | exact Below.refl _ _ | exact (Below.refl _ _).drew | exact below_drewX (Below.refl _ _) _ | exact below_drewX (below_drewX (Below.refl _ _) _) _ | exact (below_drewX (Below.refl _ _) _).drew) _).mono ?_); rintro e w9 ⟨rfl, hq⟩)
          rw [HRE.out]
          exact bodyPost_end (v := .tuple #[]) (by simp [results, Tryz.results80, go_sem]) rfl (LOTo.then_ ⟨rfl, hq⟩ (HT4.out.then_ (by first | exact Below.refl _ _ | exact (Below.refl _ _).drew | exact below_drewX (Below.refl _ _) _ | exact below_drewX (below_drewX (Below.refl _ _) _) _ | exact (below_drewX (Below.refl _ _) _).drew)) HG4.out)
        · have dk : (f.kind == s.asks) = false := by simpa using hk
          have HRE := Lib.hid (show r = s1.rise (s1.answer o f 10) false by rw [HRS.out, if_neg (by simp [h7, h4]), if_neg (by simp [hk]), if_neg (by simp [h7]), decide_eq_false h7])
          rw [decide_eq_false h7] at HRI
          clear h4 h7 h2 hk
          go_quiet (fail)
          go_wp2_with fail
          go_big_quiet (fail)
          go_wp2_with (first
            | (go_at_call 130; (with_reducible refine (HAN.out _ (by first | exact Below.refl _ _ | exact (Below.refl _ _).drew | exact below_drewX (Below.refl _ _) _ | exact below_drewX (below_drewX (Below.refl _ _) _) _ | exact (below_drewX (Below.refl _ _) _).drew) _).mono ?_); rintro e w9 ⟨rfl, H9, k1, k2, k3⟩; have HL9 := Lib.hid k1; have HT9 := Lib.hid ((HT4.out.then_ (by first | exact Below.refl _ _ | exact (Below.refl _ _).drew | exact below_drewX (Below.refl _ _) _ | exact below_drewX (below_drewX (Below.refl _ _) _) _ | exact (below_drewX (Below.refl _ _) _).drew)).trans k2 HG4.out); have HG9 := Lib.hid (HG4.out.trans k3 (HT4.out.then_ (by first | exact Below.refl _ _ | exact (Below.refl _ _).drew | exact below_drewX (Below.refl _ _) _ | exact below_drewX (below_drewX (Below.refl _ _) _) _ | exact (below_drewX (Below.refl _ _) _).drew)).size); clear k1 k2 k3)
            | (go_at_call 134; (with_reducible refine (HRI.out _ _ HL9.out).mono ?_); rintro e w10 ⟨rfl, hq⟩))
          rw [HRE.out]
          exact bodyPost_end (v := .tuple #[]) (by simp [results, Tryz.results80, go_sem]) rfl (LOTo.then_ ⟨rfl, hq⟩ HT9.out HG9.out)
      · have d2 : (s.state == 2) = false := by simpa using h2
        have HRE := Lib.hid (show r = s1.rise (s1.answer o f 10) false by rw [HRS.out, if_neg (by simp [h7, h4]), if_neg (by simp [h2]), if_neg (by simp [h2]), decide_eq_false h7])
        rw [decide_eq_false h7] at HRI
        clear h4 h7 h2
        go_quiet (fail)
        go_wp2_with fail
        go_big_quiet (fail)
        go_wp2_with (first
          | (go_at_call 130; (with_reducible refine (HAN.out _ (by first | exact Below.refl _ _ | exact (Below.refl _ _).drew | exact below_drewX (Below.refl _ _) _ | exact below_drewX (below_drewX (Below.refl _ _) _) _ | exact (below_drewX (Below.refl _ _) _).drew) _).mono ?_); rintro e w9 ⟨rfl, H9, k1, k2, k3⟩; have HL9 := Lib.hid k1; have HT9 := Lib.hid ((HT4.out.then_ (by first | exact Below.refl _ _ | exact (Below.refl _ _).drew | exact below_drewX (Below.refl _ _) _ | exact below_drewX (below_drewX (Below.refl _ _) _) _ | exact (below_drewX (Below.refl _ _) _).drew)).trans k2 HG4.out); have HG9 := Lib.hid (HG4.out.trans k3 (HT4.out.then_ (by first | exact Below.refl _ _ | exact (Below.refl _ _).drew | exact below_drewX (Below.refl _ _) _ | exact below_drewX (below_drewX (Below.refl _ _) _) _ | exact (below_drewX (Below.refl _ _) _).drew)).size); clear k1 k2 k3)
          | (go_at_call 134; (with_reducible refine (HRI.out _ _ HL9.out).mono ?_); rintro e w10 ⟨rfl, hq⟩))
        rw [HRE.out]
        exact bodyPost_end (v := .tuple #[]) (by simp [results, Tryz.results80, go_sem]) rfl (LOTo.then_ ⟨rfl, hq⟩ HT9.out HG9.out)
end Go.Proofs.YtgoaepjjegblnaaGreatDoor
