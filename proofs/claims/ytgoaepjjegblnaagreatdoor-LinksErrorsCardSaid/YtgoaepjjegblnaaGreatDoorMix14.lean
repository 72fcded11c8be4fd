/-
The landed link: keepTime, drop, fall, await.
The landed link: fall.
The landed link: Connect.
-/
import Derived.Test.YtgoaepjjegblnaaGreatDoorMix13
namespace Go.Proofs.YtgoaepjjegblnaaGreatDoor
open Go.RowKit
set_option maxRecDepth 20000
theorem ckeep20 (w : World) (p : Nat) (s : Lk) (F : Nat → Prop) (h : LkL w p s F) : Calls Tryz.prog 75 #[ptr20 p] w (LkTo w p F s.keepTime (.tuple #[])) := by
  have HA := Lib.hid (cawaits20 h.drew)
  have HR := Lib.hid (crun20 w.drew p s F s.awaits h.drew)
  unfold Lk.keepTime
  generalize s.awaits = b at *
  clear h
  go_enter Tryz.func75, Tryz.ntmps75
  refine wp_region_held (S := fun _ => True) (by kernel_rfl) ?_
  change wpAnyH _ _ _ _ _ _ _ _ (World.drew _)
  have HB := Lib.hid trivial
  refine wpAnyH_take (i := 0) (v := ?_) rfl (by kernel_rfl) (by kernel_rfl) (by kernel_rfl) (fun _ _ _ h => h) (Or.inl ⟨by rfl, ?_⟩) HB.out ?_
  rotate_left
  · intro w' hw'
    go_simp
    with_reducible rfl
  go_simp
  refine wpAnyH_take (i := 1) (v := ?_) rfl (by kernel_rfl) (by kernel_rfl) (by kernel_rfl) (fun _ _ _ h => h) (Or.inl ⟨by rfl, ?_⟩) HB.out ?_
  rotate_left
  · intro w' hw'
    go_simp
    with_reducible rfl
  go_simp
  refine wpAnyH_take (i := 2) (v := ?_) rfl (by kernel_rfl) (by kernel_rfl) (by kernel_rfl) (fun _ _ _ h => h) (Or.inl ⟨by rfl, ?_⟩) HB.out ?_
  rotate_left
  · intro w' hw'
    go_simp
    with_reducible rfl
  go_simp
  refine wpAnyH_take (i := 3) (v := ?_) rfl (by kernel_rfl) (by kernel_rfl) (by kernel_rfl) (fun _ _ _ h => h) (Or.inl ⟨by rfl, ?_⟩) HB.out ?_
  rotate_left
  · intro w' hw'
    go_simp
    with_reducible rfl
  go_simp
  refine wpAnyH_take (i := 4) (v := ?_) rfl (by kernel_rfl) (by kernel_rfl) (by kernel_rfl) (fun _ _ _ h => h) (Or.inl ⟨by rfl, ?_⟩) HB.out ?_
  rotate_left
  · intro w' hw'
    go_simp
    with_reducible rfl
  go_simp
  refine wpAnyH_take (i := 5) (v := ?_) rfl (by kernel_rfl) (by kernel_rfl) (by kernel_rfl) (fun _ _ _ h => h) (Or.inl ⟨by rfl, ?_⟩) HB.out ?_
  rotate_left
  · intro w' hw'
    go_simp
    with_reducible rfl
  go_simp
  refine wpAnyH_ready (rs := [6]) (by kernel_rfl) (by simp) ?_
  refine AllReadyH.cons rfl (fun K hK => ?_) AllReadyH.nil
  go_simp
  go_at_call 126
  refine HA.out.mono ?_
  rintro e w1 ⟨rfl, rfl⟩
  change K _ _
  refine hK.out _ _ HB.out (fun _ => ?_)
  clear hK K
  refine wpAnyH_ready (rs := [7]) (by kernel_rfl) (by simp) ?_
  refine AllReadyH.cons rfl (fun K hK => ?_) AllReadyH.nil
  go_simp
  go_at_call 125
  refine HR.out.mono ?_
  rintro e w1 ⟨rfl, hq⟩
  change K _ _
  refine hK.out _ _ HB.out (fun _ => ?_)
  clear hK K
  refine wpAnyH_done (by kernel_rfl) ?_ _
  exact bodyPost_end (v := .tuple #[]) (by simp [results, Tryz.results75, go_sem]) rfl (LkTo.then_ ⟨rfl, hq⟩ (Turn.refl _ _).drew (Grew.refl _ _))
/-- a block's row is written, cell by cell -/
structure Rw (w : World) (p : Nat) (L : List Value) (W : World) : Prop where
  row : RowAt W p L
  turn : Turn (fun k => k = p) w W
theorem Rw.start {w : World} {p : Nat} {L : List Value} (h : RowAt w p L) : Rw w p L w := ⟨h, Turn.refl _ _⟩
theorem Rw.set {w W : World} {p : Nat} {L : List Value} (h : Rw w p L W) (j : Nat) (v : Value) : Rw w p (L.set j v) (W.setCell ⟨p, j, none⟩ v) := ⟨h.row.put j v _ rfl, h.turn.set (p := ⟨p, j, none⟩) (Or.inl rfl) v⟩
def nilP (x : Px) : Px := { x with bo := .pointer none, ou := .pointer none, op := .map none, nn := .pointer none, ke := .map none, sk := .map none, ga := .pointer none }
def noneP (P : Nat → Nat → Prop) : Nat → Nat → Prop := fun i => if 1 ≤ i ∧ i ≤ 7 then fun _ => False else P i
theorem drop_done {w w' : World} {p : Nat} {x : Px} {s : Lk} {P : Nat → Nat → Prop} (h : LkAt w p x s P) (hr : RowAt w' p (lkRow (nilP x) s.drop)) (ht : Turn (fun k => k = p) w w') :
    LkAt w' p (nilP x) s.drop (noneP P) ∧ Turn (footK p P) w w' ∧ Grew (footK p P) (footK p (noneP P)) w := by
  have hG : ∀ i, Grew (P i) (noneP P i) w := fun i => by
    unfold noneP
    split
    · exact fun k hk => hk.elim
    · exact Grew.refl _ _
  have keep : ∀ i, Cp x s i w (P i) → Cp x s i w' (P i) := fun i hc => hc.stay ⟨ht.size, fun k hk => ht.block k ((h.comp i).mem k hk) fun e => h.off i (e ▸ hk)⟩
  refine ⟨h.move hr (fun i => ?_) hG (fun i j k hk hi hj => ?_), ⟨ht.os, ht.tape, ht.output, ht.size, fun k hk hF => ht.block k hk fun e => hF (Or.inl e)⟩, foot_grew hG⟩
  · match i with
    | 0 => exact keep 0 (h.comp 0)
    | 1 | 2 | 4 | 7 => exact ⟨rfl, fun k hk => hk⟩
    | 3 | 5 | 6 => exact ⟨rfl, fun k hk => hk⟩
    | 8 => exact keep 8 (h.comp 8)
    | i + 9 => exact keep (i + 9) (h.comp (i + 9))
  · have := (hG i k hi).elim (fun h1 => (h.comp i).mem k h1) (fun _ => by
      have : ∀ a, noneP P a k → k < w.heap.size := fun a ha => by
        unfold noneP at ha
        split at ha
        · exact ha.elim
        · exact (h.comp a).mem k ha
      exact this i hi)
    omega
theorem cdrop20 (w : World) (p : Nat) (s : Lk) (F : Nat → Prop) (h : LkL w p s F) : Calls Tryz.prog 120 #[ptr20 p] w (LkTo w p F s.drop (.tuple #[])) := by
  obtain ⟨x, P, h, rfl⟩ := h
  have HA := Lib.hid h
  obtain ⟨c5, f5, -⟩ := h.row.get 5 rfl
  obtain ⟨c6, f6, -⟩ := h.row.get 6 rfl
  obtain ⟨c7, f7, -⟩ := h.row.get 7 rfl
  obtain ⟨c8, f8, -⟩ := h.row.get 8 rfl
  obtain ⟨c9, f9, -⟩ := h.row.get 9 rfl
  obtain ⟨d0, g0, -⟩ := h.row.get 10 rfl
  obtain ⟨d1, g1, -⟩ := h.row.get 11 rfl
  obtain ⟨d2, g2, -⟩ := h.row.get 12 rfl
  obtain ⟨d3, g3, -⟩ := h.row.get 13 rfl
  obtain ⟨d4, g4, -⟩ := h.row.get 14 rfl
  obtain ⟨d5, g5, -⟩ := h.row.get 15 rfl
  clear h
  go_enter Tryz.func120, Tryz.ntmps120
  go_wp2_with fail
  clear c5 c6 c7 c8 c9 d0 d1 d2 d3 d4 d5 f5 f6 f7 f8 f9 g0 g1 g2 g3 g4 g5
  have hR := (((((((((((Rw.start HA.out.row).set 5 (.pointer none)).set 6 (.pointer none)).set 7 (.map none)).set 8 (.bool false)).set 9 (.bool false)).set 10 (.pointer none)).set 11 (.map none)).set 12 (.map none)).set 13 (.bool false)).set 14 (.pointer none)).set 15 (.bool s.held)
  obtain ⟨k1, k2, k3⟩ := drop_done HA.out hR.row hR.turn
  exact bodyPost_end (v := .tuple #[]) (by simp [results, Tryz.results120, go_sem]) rfl ⟨rfl, _, ⟨_, _, k1, rfl⟩, k2, k3⟩
theorem LO.step {w : World} {p q : Nat} {s s' : Lk} {o : Ot} {H : Nat → Prop} {v : Value} (h : LO w p q s o H) (f : FuncId) (xs : Array Value) (hc : ∀ F, LkL w p s F → Calls Tryz.prog f xs w (LkTo w p F s' v)) : Calls Tryz.prog f xs w (LOTo w p q H s' o v) := by
  obtain ⟨F, G, hL, hO, ha, hH⟩ := h
  refine (hc F hL).mono ?_
  rintro e w' ⟨he, F', k1, k2, k3⟩
  exact ⟨he, LO.link hO ha hH k1 k2 k3⟩
/-- a state that is set -/
def setA (s : Lk) (st kind : Int) : Lk := { s with state := st, asks := kind, tries := 0 }
theorem LO.put1 {w : World} {p q : Nat} {s s' : Lk} {o : Ot} {H : Nat → Prop} (h : LO w p q s o H) (j : Nat) (v : Value) (hr : ∀ x, lkRow x s' = (lkRow x s).set j v) (hc : ∀ x i, Cp x s' i = Cp x s i) : LO (w.setCell ⟨p, j, none⟩ v) p q s' o H ∧ Turn H w (w.setCell ⟨p, j, none⟩ v) := by
  obtain ⟨F, G, ⟨x, P, hL, rfl⟩, hO, ha, hH⟩ := h
  obtain ⟨k1, k2⟩ := hL.set j v (hr x) (hc x)
  have hGm := hO.mem
  exact ⟨⟨footK p P, G, ⟨x, P, k1, rfl⟩, hO.stay ⟨k2.size, fun k hk => k2.block k (hGm k hk) fun hf => ha.1 k hf hk⟩, ha, hH⟩, ⟨k2.os, k2.tape, k2.output, k2.size, fun k hk hf => k2.block k hk fun hf' => hf (by rw [hH]; exact Or.inl hf')⟩⟩
theorem LO.get {w : World} {p q : Nat} {s : Lk} {o : Ot} {H : Nat → Prop} (h : LO w p q s o H) (j : Nat) {v : Value} (e : ∀ x, (lkRow x s)[j]? = some v) : w.cell? ⟨p, j, none⟩ = some v ∧ w.frozen? ⟨p, j, none⟩ = false := by
  obtain ⟨F, G, ⟨x, P, hL, rfl⟩, -⟩ := h
  obtain ⟨c, f, -⟩ := hL.row.get j (e x)
  exact ⟨c, f⟩
theorem cawait20 (w : World) (p q : Nat) (s : Lk) (o : Ot) (H : Nat → Prop) (st kind : Int) (h : LO w p q s o H) (hy : s.way.ok) (hc : s.can.ok = true) (hm : o.frames.length ≤ 1000) :
    Calls Tryz.prog 71 #[ptr20 p, ptr20 q, .int .i64 st, .int .i64 kind] w (LOTo w p q H (s.await xB o st kind).1 (s.await xB o st kind).2 (.tuple #[])) := by
  have HD := Lib.hid (h.step _ _ fun F hL => cdrop20 w p s F hL)
  have HP := Lib.hid (fun (W : World) (H1 : Nat → Prop) (h1 : LO W p q s.drop o H1) => ((h1.put1 41 (.int .i64 st) (s' := { s.drop with state := st }) (fun _ => rfl) (fun _ => (fun i => by match i with | 0 | 1 | 2 | 3 | 4 | 5 | 6 | 7 | 8 => rfl | k + 9 => rfl)))))
  have HP2 := Lib.hid (fun (W : World) (H1 : Nat → Prop) (h1 : LO W p q { s.drop with state := st } o H1) => ((h1.put1 42 (.int .i64 kind) (s' := { s.drop with state := st, asks := kind }) (fun _ => rfl) (fun _ => (fun i => by match i with | 0 | 1 | 2 | 3 | 4 | 5 | 6 | 7 | 8 => rfl | k + 9 => rfl)))))
  have HP3 := Lib.hid (fun (W : World) (H1 : Nat → Prop) (h1 : LO W p q { s.drop with state := st, asks := kind } o H1) => ((h1.put1 4 (.int .i64 0) (s' := setA s.drop st kind) (fun _ => rfl) (fun _ => (fun i => by match i with | 0 | 1 | 2 | 3 | 4 | 5 | 6 | 7 | 8 => rfl | k + 9 => rfl)))))
  have HS := Lib.hid (fun (W : World) (H1 : Nat → Prop) (h1 : LO W p q (setA s.drop st kind) o H1) => h1.step _ _ fun F hL => cstart20 W p _ F hL)
  have HT := Lib.hid (fun (W : World) (H1 : Nat → Prop) (h1 : LO W p q (setA s.drop st kind).start o H1) => ctellAsks20 W p q _ o H1 h1 hy hc hm)
  have HE := Lib.hid (show (s.await xB o st kind) = ((setA s.drop st kind).start, (setA s.drop st kind).start.tellAsks xB o) from rfl)
  have HG := Lib.hid (fun (W : World) (H1 : Nat → Prop) (h1 : LO W p q s.drop o H1) => And.intro (h1.get 41 (fun _ => rfl)) (And.intro (h1.get 42 (fun _ => rfl)) (h1.get 4 (fun _ => rfl))))
  rw [HE.out]
  clear h hy hc hm
  go_enter Tryz.func71, Tryz.ntmps71
  go_wp2_with (first
    | (go_at_call 120; (with_reducible refine HD.out.mono ?_); rintro e w1 ⟨rfl, H1, k1, k2, k3⟩; have HK1 := Lib.hid k1; have HT1 := Lib.hid k2; have HG1 := Lib.hid k3; obtain ⟨⟨c1, f1⟩, ⟨c2, f2⟩, ⟨c3, f3⟩⟩ := HG.out _ _ k1; clear k1 k2 k3)
    | (go_at_call 113; have HQ1 := Lib.hid (HP.out _ _ HK1.out); have HQ2 := Lib.hid (HP2.out _ _ HQ1.out.1); have HQ3 := Lib.hid (HP3.out _ _ HQ2.out.1); have HT3 := Lib.hid (HT1.out.trans ((HQ1.out.2.trans HQ2.out.2 (Grew.refl _ _)).trans HQ3.out.2 (Grew.refl _ _)) HG1.out); (with_reducible refine (HS.out _ _ HQ3.out.1).mono ?_); rintro e w2 ⟨rfl, H2, k1, k2, k3⟩; have HK2 := Lib.hid k1; have HT2 := Lib.hid (HT3.out.trans k2 HG1.out); have HG2 := Lib.hid (HG1.out.trans k3 HT3.out.size); clear k1 k2 k3 c1 c2 c3 f1 f2 f3)
    | (go_at_call 114; (with_reducible refine (HT.out _ _ HK2.out).mono ?_); rintro e w3 ⟨rfl, hq⟩))
  exact bodyPost_end (v := .tuple #[]) (by simp [results, Tryz.results71, go_sem]) rfl (LOTo.then_ ⟨rfl, hq⟩ HT2.out HG2.out)
end Go.Proofs.YtgoaepjjegblnaaGreatDoor
namespace Go.Proofs.YtgoaepjjegblnaaGreatDoor
open Go.RowKit
set_option maxRecDepth 20000
/-- an event, told -/
theorem LO.open_ {w : World} {p q : Nat} {s : Lk} {o : Ot} {H : Nat → Prop} (h : LO w p q s o H) : ∃ fv ev L G F, OtAt w q fv ev L o ∧ G = footO q fv ev L ∧ LkL w p s F ∧ Apt q F G ∧ H = fun k => F k ∨ G k := by
  obtain ⟨F, G, hL, ⟨fv, ev, L, hO, hG⟩, ha, hH⟩ := h
  exact ⟨fv, ev, L, G, F, hO, hG, hL, ha, hH⟩
end Go.Proofs.YtgoaepjjegblnaaGreatDoor
namespace Go.Proofs.YtgoaepjjegblnaaGreatDoor
open Go.RowKit
set_option maxRecDepth 20000
/-- what was told, as a value -/
structure OuAt (w : World) (fv ev : Value) (L : List Fv) (o : Ot) : Prop where
  frames : OwnL encFv 74 w 0 fv L
  same : L.map (·.f) = o.frames
  ways : ∀ e ∈ L, EntsAt w e.da e.dc (freshD e.f.way.D)
  events : OwnL encEv 122 w 0 ev o.events
  wo : ∀ e ∈ L, ∀ a, e.da = some a → a.block < w.heap.size
abbrev ouV (fv ev : Value) (b : Bool) : Value := .agg #[fv, ev, .bool b]
def footV (fv ev : Value) (L : List Fv) : Nat → Prop := fun k => fv.ownBlock = some k ∨ ev.ownBlock = some k ∨ ∃ e ∈ L, ∃ a, e.da = some a ∧ a.block = k
/-- what was told, and in which blocks it lies -/
def OuV (w : World) (v : Value) (o : Ot) (G : Nat → Prop) : Prop := ∃ fv ev L, v = ouV fv ev o.fresh ∧ OuAt w fv ev L o ∧ G = footV fv ev L
section
variable {w w' : World} {v : Value} {o : Ot} {G : Nat → Prop}
theorem OuV.mem (h : OuV w v o G) : ∀ k, G k → k < w.heap.size := by
  obtain ⟨fv, ev, L, -, h, rfl⟩ := h
  rintro k (hk | hk | ⟨e, he, a, ha, rfl⟩)
  · exact (h.frames.ge hk).2
  · exact (h.events.ge hk).2
  · exact h.wo e he a ha
theorem OuV.stay (h : OuV w v o G) (hs : SameOn G w w') : OuV w' v o G := by
  obtain ⟨fv, ev, L, hv, h, rfl⟩ := h
  exact ⟨fv, ev, L, hv, ⟨h.frames.same fun g hg => hs.2 g (Or.inl hg), h.same, fun e he => (h.ways e he).same (fun a ha => hs.2 _ (Or.inr (Or.inr ⟨e, he, a, ha, rfl⟩))) hs.1, h.events.same fun g hg => hs.2 g (Or.inr (Or.inl hg)), fun e he a ha => Nat.lt_of_lt_of_le (h.wo e he a ha) hs.1⟩, rfl⟩
theorem OuV.below (h : OuV w v o G) (hb : Below w.heap.size w w') : OuV w' v o G := h.stay (SameOn.of_below hb h.mem)
end
/-- what a step of a link answers that tells -/
def OTo (w : World) (p : Nat) (F : Nat → Prop) (s' : Lk) (o' : Ot) (fin : Value → Value) (e : Ending) (w' : World) : Prop :=
  ∃ v F' G', e = .returned (fin v) ∧ LkL w' p s' F' ∧ OuV w' v o' G' ∧ Turn F w w' ∧ Grew F F' w ∧ (∀ k, G' k → w.heap.size ≤ k) ∧ ∀ k, F' k → ¬ G' k
/-- a link and a new answer, ahead of the steps: the result's cells at r, the answer's at q -/
structure Ran (w : World) (p q r : Nat) (F : Nat → Prop) (H : Nat → Prop) (W : World) : Prop where
  turn : Turn F w W
  grew : ∀ k, H k → F k ∨ w.heap.size ≤ k
  rq : r ≠ q
  rw_ : w.heap.size ≤ r
  qw : w.heap.size ≤ q
  res : RowAt W r [.slice none 0 0, .slice none 0 0, .bool false]
  off : ¬ H r
theorem Ran.turned {w W W' : World} {p q r : Nat} {F H H' : Nat → Prop} (h : Ran w p q r F H W) (ht : Turn H W W') (hg : Grew H H' W) : Ran w p q r F H' W' := by
  have hr := RowAt.lt h.res
  refine ⟨⟨ht.os.trans h.turn.os, ht.tape.trans h.turn.tape, ht.output.trans h.turn.output, Nat.le_trans h.turn.size ht.size, fun k hk hF => (ht.block k (Nat.lt_of_lt_of_le hk h.turn.size) fun hH => (h.grew k hH).elim hF fun hge => by omega).trans (h.turn.block k hk hF)⟩, fun k hk => (hg k hk).elim (h.grew k) fun hge => Or.inr (Nat.le_trans h.turn.size hge), h.rq, h.rw_, h.qw, h.res.turn ht h.off, fun hk => (hg r hk).elim h.off fun hge => by omega⟩
/-- at the end: the answer goes into the result's cells -/
theorem Ran.done {w W : World} {p q r : Nat} {s' : Lk} {o' : Ot} {F H : Nat → Prop} {fin : Value → Value} (h : Ran w p q r F H W) (hLO : LO W p q s' o' H) : ∃ fv ev, RowAt W q [fv, ev, .bool o'.fresh] ∧
    RowAt (((W.setCell ⟨r, 0, none⟩ fv).setCell ⟨r, 1, none⟩ ev).setCell ⟨r, 2, none⟩ (.bool o'.fresh)) r [fv, ev, .bool o'.fresh] ∧
    OTo w p F s' o' fin (.returned (fin (ouV fv ev o'.fresh))) (((W.setCell ⟨r, 0, none⟩ fv).setCell ⟨r, 1, none⟩ ev).setCell ⟨r, 2, none⟩ (.bool o'.fresh)) ∧ (∃ a n c, fv = .slice a n c) ∧ ∃ a n c, ev = .slice a n c := by
  obtain ⟨F', G, hL, ⟨fv, ev, L, hO, hG⟩, ha, hH⟩ := hLO
  have hR := ((((Rw.start h.res).set 0 fv).set 1 ev).set 2 (.bool o'.fresh))
  have hFr : ¬ F' r := fun e => h.off (by rw [hH]; exact Or.inl e)
  have hGr : ∀ k, footV fv ev L k → k ≠ r := fun k hk e => h.off (by
    rw [hH, hG, ← e]
    exact Or.inr (hk.elim (fun x => Or.inr (Or.inl x)) fun x => x.elim (fun x => Or.inr (Or.inr (Or.inl x))) fun x => Or.inr (Or.inr (Or.inr x))))
  have hFm := hL.mem
  refine ⟨fv, ev, hO.row, hR.row, ⟨_, F', footV fv ev L, rfl, hL.stay ⟨hR.turn.size, fun k hk => hR.turn.block k (hFm k hk) fun e => hFr (e ▸ hk)⟩, ?_, ?_, ?_, ?_, ?_⟩, OwnL.form' hO.frames |>.elim fun a h => h.elim fun n h => h.elim fun c h => ⟨a, n, c, h⟩, OwnL.form' hO.events |>.elim fun a h => h.elim fun n h => h.elim fun c h => ⟨a, n, c, h⟩⟩
  · have hv : OuV W (ouV fv ev o'.fresh) o' (footV fv ev L) := ⟨fv, ev, L, rfl, ⟨hO.frames, hO.same, hO.ways, hO.events, fun e he a ha => (hO.wo e he a ha).1⟩, rfl⟩
    have hm := hv.mem
    exact hv.stay ⟨hR.turn.size, fun k hk => hR.turn.block k (hm k hk) (hGr k hk)⟩
  · exact ⟨hR.turn.os.trans h.turn.os, hR.turn.tape.trans h.turn.tape, hR.turn.output.trans h.turn.output, Nat.le_trans h.turn.size hR.turn.size, fun k hk hF => (hR.turn.block k (Nat.lt_of_lt_of_le hk h.turn.size) fun e => by have := h.rw_; omega).trans (h.turn.block k hk hF)⟩
  · exact fun k hk => h.grew k (by rw [hH]; exact Or.inl hk)
  · intro k hk
    have hk' : G k := by
      rw [hG]
      exact hk.elim (fun x => Or.inr (Or.inl x)) fun x => x.elim (fun x => Or.inr (Or.inr (Or.inl x))) fun x => Or.inr (Or.inr (Or.inr x))
    exact Nat.le_trans h.qw (ha.2 k hk')
  · intro k hk hk2
    refine ha.1 k hk ?_
    rw [hG]
    exact hk2.elim (fun x => Or.inr (Or.inl x)) fun x => x.elim (fun x => Or.inr (Or.inr (Or.inl x))) fun x => Or.inr (Or.inr (Or.inr x))
theorem cconn20 (w : World) (p : Nat) (s : Lk) (F : Nat → Prop) (h : LkL w p s F) (h0 : s.state = 0) (hy : s.way.ok) (hc : s.can.ok = true) :
    Calls Tryz.prog 26 #[ptr20 p] w (OTo w p F ((s.learn s.can.t1).await xB ⟨[], [], true⟩ (if s.can.wide then 1 else 2) (if s.can.wide then 13 else 6)).1 ((s.learn s.can.t1).await xB ⟨[], [], true⟩ (if s.can.wide then 1 else 2) (if s.can.wide then 13 else 6)).2 fun v => .tuple #[v, .int .i64 0]) := by
  obtain ⟨w1, hw1⟩ : ∃ w1, w1 = w.alloc (.cells #[.slice none 0 0, .slice none 0 0, .bool false] 50) := ⟨_, rfl⟩
  obtain ⟨w2, hw2⟩ : ∃ w2, w2 = w1.alloc (.cells #[.slice none 0 0, .slice none 0 0, .bool true] 50) := ⟨_, rfl⟩
  have hb1 : Below w.heap.size w w1 := by rw [hw1]; exact (Below.refl _ w).alloc (Nat.le_refl _) _
  have hb2 : Below w.heap.size w w2 := by rw [hw2]; exact hb1.alloc hb1.size _
  have hs1 : w1.heap.size = w.heap.size + 1 := by rw [hw1]; simp
  have hr1 : RowAt w1 w.heap.size [.slice none 0 0, .slice none 0 0, .bool false] := by rw [hw1]; exact RowAt.new w w.heap.size rfl [.slice none 0 0, .slice none 0 0, .bool false] 50
  have hr2 : RowAt w2 w.heap.size [.slice none 0 0, .slice none 0 0, .bool false] := by rw [hw2]; exact hr1.alloc _
  have hO2 : OtL w2 w1.heap.size ⟨[], [], true⟩ (fun k => k = w1.heap.size) := by rw [hw2]; exact OtL.new w1 true
  have hL2 := h.below hb2
  have hLO : LO w2 p w1.heap.size s ⟨[], [], true⟩ (fun k => F k ∨ k = w1.heap.size) := ⟨F, _, hL2, hO2, ⟨fun k hk e => by have := h.mem k hk; omega, fun k hk => by omega⟩, rfl⟩
  have hRan : Ran w p w1.heap.size w.heap.size F (fun k => F k ∨ k = w1.heap.size) w2 := ⟨(Turn.refl F w).then_ hb2, fun k hk => hk.imp id fun e => by omega, by omega, Nat.le_refl _, by omega, hr2, fun hk => hk.elim (fun hk => by have := h.mem _ hk; omega) fun e => by omega⟩
  rw [hs1] at hLO hRan
  have HLO := Lib.hid hLO
  have HRAN := Lib.hid hRan
  have HLRN := Lib.hid (fun (W : World) (H1 : Nat → Prop) (h1 : LO W p (w.heap.size + 1) s ⟨[], [], true⟩ H1) => h1.step _ _ fun F hL => clearn20 W p s F s.can.t1 hL)
  have HAW := Lib.hid (fun (W : World) (H1 : Nat → Prop) (h1 : LO W p (w.heap.size + 1) (s.learn s.can.t1) ⟨[], [], true⟩ H1) => cawait20 W p (w.heap.size + 1) (s.learn s.can.t1) ⟨[], [], true⟩ H1 (if s.can.wide then 1 else 2) (if s.can.wide then 13 else 6) h1 hy hc (by simp))
  have HG := Lib.hid (fun (W : World) (H1 : Nat → Prop) (h1 : LO W p (w.heap.size + 1) (s.learn s.can.t1) ⟨[], [], true⟩ H1) => (h1.get 23 (v := .bool s.can.wide) (fun _ => rfl)).1)
  have HD := Lib.hid (fun (W : World) (H1 : Nat → Prop) (s2 : Lk) (o2 : Ot) (hr : Ran w p (w.heap.size + 1) w.heap.size F H1 W) (h1 : LO W p (w.heap.size + 1) s2 o2 H1) => hr.done (fin := fun v => .tuple #[v, .int .i64 0]) h1)
  have HC := Lib.hid (show w2.cell? ⟨p, 41, none⟩ = some (.int .i64 s.state) ∧ w2.cell? ⟨p, 27, none⟩ = some (.int .i64 s.can.t1) from ⟨(hLO.get 41 (fun _ => rfl)).1, (hLO.get 27 (fun _ => rfl)).1⟩)
  have e41 : w1.cell? ⟨p, 41, none⟩ = some (.int .i64 s.state) := by
    obtain ⟨x, P, hL, rfl⟩ := h
    exact (hL.row.below hb1).cell 41 rfl
  rw [hw1] at e41
  have d0 : (s.state != 0) = false := by simp [h0]
  clear h h0 hy hc hb1 hb2 hr1 hr2 hO2 hL2 hLO hRan
  generalize hst : ((s.learn s.can.t1).await xB ⟨[], [], true⟩ (if s.can.wide then 1 else 2) (if s.can.wide then 13 else 6)) = res at *
  clear hst
  generalize s.can.wide = b at *
  go_enter Tryz.func26, Tryz.ntmps26
  go_upto_region 6 with fail
  rw [← hw1, ← hw2]
  clear hw1 hw2 e41
  obtain ⟨c41, c27⟩ := HC.out
  refine wp_region_held (S := fun W' => W'.cell? ⟨p, 27, none⟩ = some (.int .i64 s.can.t1)) (by kernel_rfl) ?_
  change wpAnyH _ _ _ _ _ _ _ _ (World.drew _)
  have HB := Lib.hid (show w2.drew.cell? ⟨p, 27, none⟩ = some (.int .i64 s.can.t1) from c27)
  clear c41 c27
  refine wpAnyH_take (i := 0) (v := ?_) rfl (by kernel_rfl) (by kernel_rfl) (by kernel_rfl) (fun _ _ _ h => h) (Or.inl ⟨by rfl, ?_⟩) HB.out ?_
  rotate_left
  · intro w' hw'
    go_simp
    with_reducible rfl
  go_simp
  refine wpAnyH_take (i := 1) (v := ?_) rfl (by kernel_rfl) (by kernel_rfl) (by kernel_rfl) (fun _ _ _ h => h) (Or.inl ⟨by rfl, ?_⟩) HB.out ?_
  rotate_left
  · intro w' hw'
    go_simp
    with_reducible rfl
  go_simp
  refine wpAnyH_take (i := 2) (v := ?_) rfl (by kernel_rfl) (by kernel_rfl) (by kernel_rfl) (fun _ _ _ h => h) (Or.inl ⟨by rfl, ?_⟩) HB.out ?_
  rotate_left
  · intro w' hw'
    go_simp
    with_reducible rfl
  go_simp
  refine wpAnyH_take (i := 3) (v := ?_) rfl (by kernel_rfl) (by kernel_rfl) (by kernel_rfl) (fun _ _ _ h => h) (Or.inl ⟨by rfl, ?_⟩) HB.out ?_
  rotate_left
  · intro w' hw'
    go_simp
    with_reducible rfl
  go_simp
  refine wpAnyH_take (i := 4) (v := ?_) rfl (by kernel_rfl) (by kernel_rfl) (by kernel_rfl) (fun _ _ _ h => h) (Or.inl ⟨by rfl, ?_⟩) HB.out ?_
  rotate_left
  · intro w' hw'
    go_simp
    with_reducible rfl
  go_simp
  refine wpAnyH_take (i := 5) (v := ?_) rfl (by kernel_rfl) (by kernel_rfl) (by kernel_rfl) (fun _ _ _ h => h) (Or.inl ⟨by rfl, ?_⟩) HB.out ?_
  rotate_left
  · intro w' hw'
    go_simp
    with_reducible rfl
  go_simp
  refine wpAnyH_take (i := 6) (v := ?_) rfl (by kernel_rfl) (by kernel_rfl) (by kernel_rfl) (fun _ _ _ h => h) (Or.inl ⟨by rfl, ?_⟩) HB.out ?_
  rotate_left
  · intro w' hw'
    go_simp
    with_reducible rfl
  go_simp
  refine wpAnyH_take (i := 7) (v := ?_) rfl (by kernel_rfl) (by kernel_rfl) (by kernel_rfl) (fun _ _ _ h => h) (Or.inl ⟨by rfl, ?_⟩) HB.out ?_
  rotate_left
  · intro w' hw'
    go_simp
    with_reducible rfl
  go_simp
  refine wpAnyH_ready (rs := [8]) (by kernel_rfl) (by simp) ?_
  refine AllReadyH.cons rfl (fun K hK => ?_) AllReadyH.nil
  go_simp
  go_at_call 70
  refine (HLRN.out _ _ HLO.out.drew).mono ?_
  rintro e w3 ⟨rfl, H3, k1, k2, k3⟩
  have HR3 := Lib.hid (HRAN.out.turned ((Turn.refl _ w2).drew.trans k2 (Grew.refl _ _)) k3)
  have HK3 := Lib.hid k1
  have c23 := HG.out _ _ k1
  clear HB
  have HB := Lib.hid (k1.get 27 (v := .int .i64 s.can.t1) (fun _ => rfl)).1
  clear k1 k2 k3
  change K _ _
  refine hK.out _ _ HB.out (fun _ => ?_)
  clear hK K
  refine wpAnyH_done (by kernel_rfl) ?_ _
  cases b
  · simp only [Bool.false_eq_true, if_false] at HAW
    go_upto_region 10 with (go_at_call 71; (with_reducible refine (HAW.out _ _ HK3.out).mono ?_); rintro e w4 ⟨rfl, H4, k1, k2, k3⟩; have HR4 := Lib.hid (HR3.out.turned k2 k3); have HK4 := Lib.hid k1; clear k1 k2 k3 c23)
    obtain ⟨fv, ev, hrow, hres, hto, ⟨fa, fn, fc, rfl⟩, ⟨ea, en, ec, rfl⟩⟩ := HD.out _ _ _ _ HR4.out HK4.out
    have q0 := hrow.cell 0 rfl
    have q1 := hrow.cell 1 rfl
    have q2 := hrow.cell 2 rfl
    obtain ⟨r0, s0, -⟩ := HR4.out.res.get 0 rfl
    obtain ⟨r1, s1, -⟩ := HR4.out.res.get 1 rfl
    obtain ⟨r2, s2, -⟩ := HR4.out.res.get 2 rfl
    have HTO := Lib.hid hto
    have HRES := Lib.hid hres
    clear hrow hres hto
    go_wp2_with fail
    exact bodyPost_ret (v := .tuple #[ouV (.slice fa fn fc) (.slice ea en ec) res.2.fresh, .int .i64 0]) (by simp [results, Tryz.results26, go_sem, ouV, HRES.out.cell 0 rfl, HRES.out.cell 1 rfl, HRES.out.cell 2 rfl]) rfl HTO.out
  · simp only [if_true] at HAW
    go_upto_region 10 with (go_at_call 71; (with_reducible refine (HAW.out _ _ HK3.out).mono ?_); rintro e w4 ⟨rfl, H4, k1, k2, k3⟩; have HR4 := Lib.hid (HR3.out.turned k2 k3); have HK4 := Lib.hid k1; clear k1 k2 k3 c23)
    obtain ⟨fv, ev, hrow, hres, hto, ⟨fa, fn, fc, rfl⟩, ⟨ea, en, ec, rfl⟩⟩ := HD.out _ _ _ _ HR4.out HK4.out
    have q0 := hrow.cell 0 rfl
    have q1 := hrow.cell 1 rfl
    have q2 := hrow.cell 2 rfl
    obtain ⟨r0, s0, -⟩ := HR4.out.res.get 0 rfl
    obtain ⟨r1, s1, -⟩ := HR4.out.res.get 1 rfl
    obtain ⟨r2, s2, -⟩ := HR4.out.res.get 2 rfl
    have HTO := Lib.hid hto
    have HRES := Lib.hid hres
    clear hrow hres hto
    go_wp2_with fail
    exact bodyPost_ret (v := .tuple #[ouV (.slice fa fn fc) (.slice ea en ec) res.2.fresh, .int .i64 0]) (by simp [results, Tryz.results26, go_sem, ouV, HRES.out.cell 0 rfl, HRES.out.cell 1 rfl, HRES.out.cell 2 rfl]) rfl HTO.out
end Go.Proofs.YtgoaepjjegblnaaGreatDoor
