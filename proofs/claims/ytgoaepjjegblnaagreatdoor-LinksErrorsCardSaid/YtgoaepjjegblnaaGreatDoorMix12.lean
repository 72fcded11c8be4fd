/-
The landed link tells a frame.
The landed code's Usual, bit and field.
-/
import Derived.Test.YtgoaepjjegblnaaGreatDoorMix11
import Derived.Test.YtgoaepjjegblnaaGreatDoorMix07
namespace Go.Proofs.YtgoaepjjegblnaaGreatDoor
open Go.RowKit
set_option maxRecDepth 20000
def Wy.ok (y : Wy) : Prop := rightP ((y.tb, y.tn, true) :: (y.fb, y.fn, false) :: freshD y.D) = true
theorem calls_fresh (D : List (ByteArray × Int)) : callsD (freshD D) = D := by
  unfold callsD freshD
  rw [List.map_map]
  exact List.map_id D
theorem right_mark (tb fb : ByteArray) (tn fn : Int) (c : Bool) (D : List Ent) : rightP ((tb, tn, c) :: (fb, fn, !c) :: D) = rightP ((tb, tn, true) :: (fb, fn, false) :: D) := by
  rw [right_cons, right_cons]
  rfl
theorem calong20 (y : Wy) (hy : y.ok) (a : Option Addr) (n : Nat) (c : Bool) (w : World) (hE : EntsAt w a n (freshD y.D)) : Calls Tryz.prog 67 #[wyV y a n, .bool c] w fun e w' =>
    (∃ da dc, e = .returned (.agg #[.string y.tb, .int .i64 y.tn, .string y.fb, .int .i64 y.fn, .bool c, .bool (!c), .slice da y.D.length dc]) ∧ EntsAt w' da dc (freshD y.D) ∧ ∀ q, da = some q → w.heap.size ≤ q.block ∧ q.block < w'.heap.size) ∧ Below w.heap.size w w' := by
  have h := along_any y.tb y.fb y.tn y.fn true false c a n (freshD y.D) w hE (by rw [calls_fresh, right_mark]; exact hy)
  rw [calls_fresh, show (freshD y.D).length = y.D.length by simp [freshD]] at h
  exact h
set_option maxHeartbeats 2000000 in
theorem ctell20 (w : World) (p q : Nat) (s : Lk) (o : Ot) (H : Nat → Prop) (cmd : Bool) (kind nr ns : Int) (pf : Bool) (pid : Int) (info : ByteArray) (h : LO w p q s o H) (hy : s.way.ok) (hm : o.frames.length ≤ 1000) :
    Calls Tryz.prog 173 #[ptr20 p, ptr20 q, .bool cmd, .agg #[.int .i64 kind, .int .i64 nr, .int .i64 ns, .bool pf], .int .i64 pid, .string info] w (LOTo w p q H s (o.tell ⟨s.way, cmd, kind, nr, ns, pf, pid, info⟩) (.tuple #[])) := by
  obtain ⟨F, G, ⟨x, P, hL, hF⟩, ⟨fv, ev, L, hO, hG⟩, ha, hH⟩ := h
  have hlen : L.length ≤ 1000 := by rw [← hO.same, List.length_map] at hm; exact hm
  obtain ⟨w1, hw1⟩ : ∃ w1, w1 = w.alloc (.cells #[.int .i64 kind, .int .i64 nr, .int .i64 ns, .bool pf] 72) := ⟨_, rfl⟩
  have hb1 : Below w.heap.size w w1 := by rw [hw1]; exact (Below.refl _ w).alloc (Nat.le_refl _) _
  have HC := Lib.hid (show RowAt w1 w.heap.size [.int .i64 kind, .int .i64 nr, .int .i64 ns, .bool pf] by rw [hw1]; exact RowAt.new w w.heap.size rfl [.int .i64 kind, .int .i64 nr, .int .i64 ns, .bool pf] 72)
  have HL := Lib.hid (hL.below hb1)
  have HO := Lib.hid (hO.below hb1)
  have HB1 := Lib.hid hb1
  have HLEN := Lib.hid hlen
  have hwy : WayR x.wa x.wc s.way.D w (P 8) := hL.comp 8
  have HW := Lib.hid hwy
  have HY := Lib.hid hy
  have HO0 := Lib.hid hO
  have HEND := Lib.hid (show ∀ (w' : World) (G' : Nat → Prop), OtL w' q (o.tell ⟨s.way, cmd, kind, nr, ns, pf, pid, info⟩) G' → Turn (footO q fv ev L) w w' → Grew (footO q fv ev L) G' w → LOTo w p q H s (o.tell ⟨s.way, cmd, kind, nr, ns, pf, pid, info⟩) (.tuple #[]) (.returned (.tuple #[])) w' from fun w' G' k1 k2 k3 => ⟨rfl, LO.out ⟨x, P, hL, hF⟩ ha (RowAt.lt hO.row) hH k1 (hG ▸ k2) (hG ▸ k3)⟩)
  have qf : (RowAt w1 q [fv, ev, .bool o.fresh]) := (hO.below hb1).row
  have hqc : q ≠ w.heap.size := fun e => by have := RowAt.lt hO.row; omega
  have HPQ := Lib.hid (show p ≠ q from fun e => ha.1 p (by rw [hF]; exact Or.inl rfl) (by rw [hG, e]; exact Or.inl rfl))
  have HFP := Lib.hid (show fv.ownBlock ≠ some p from fun e => ha.1 p (by rw [hF]; exact Or.inl rfl) (by rw [hG]; exact Or.inr (Or.inl e)))
  have HFC := Lib.hid (show fv.ownBlock ≠ some w.heap.size from fun e => by have := (hO.frames.ge e).2; omega)
  clear hL hO ha hH hF hG hb1 hy hm hwy hlen
  go_enter Tryz.func173, Tryz.ntmps173
  go_upto_region 1 with fail
  rw [← hw1]
  have HQ := Lib.hid qf
  clear hw1 qf
  have HEN := Lib.hid (show EntsAt w1 x.wa x.wc (freshD s.way.D) from HW.out.1.below HB1.out)
  refine wp_region_held (S := fun W' => RowAt W' p (lkRow x s) ∧ RowAt W' w.heap.size [.int .i64 kind, .int .i64 nr, .int .i64 ns, .bool pf]) (by kernel_rfl) ?_
  change wpAnyH _ _ _ _ _ _ _ _ (World.drew _)
  have HB := Lib.hid (show RowAt w1.drew p (lkRow x s) ∧ RowAt w1.drew w.heap.size [.int .i64 kind, .int .i64 nr, .int .i64 ns, .bool pf] from ⟨HL.out.row.drew, HC.out.drew⟩)
  refine wpAnyH_take (i := 0) (v := ?_) rfl (by kernel_rfl) (by kernel_rfl) (by kernel_rfl) (fun _ _ _ h => h) (Or.inl ⟨by rfl, ?_⟩) HB.out ?_
  rotate_left
  · intro w' hw'
    go_simp
    with_reducible rfl
  go_simp
  refine wpAnyH_take (i := 1) (v := ?_) rfl (by kernel_rfl) (by kernel_rfl) (by kernel_rfl) (fun _ _ _ h => h) (Or.inl ⟨by rfl, ?_⟩) HB.out ?_
  rotate_left
  · intro w' hw'
    go_simp
    with_reducible rfl
  go_simp
  refine wpAnyH_take (i := 2) (v := ?_) rfl (by kernel_rfl) (by kernel_rfl) (by kernel_rfl) (fun _ _ _ h => h) (Or.inl ⟨by rfl, ?_⟩) HB.out ?_
  rotate_left
  · intro w' hw'
    go_simp
    with_reducible rfl
  go_simp
  refine wpAnyH_take (i := 3) (v := ?_) rfl (by kernel_rfl) (by kernel_rfl) (by kernel_rfl) (fun _ _ _ h => h) (Or.inl ⟨by rfl, ?_⟩) HB.out ?_
  rotate_left
  · intro w' hw'
    go_simp
    with_reducible rfl
  go_simp
  refine wpAnyH_take (i := 5) (v := ?_) rfl (by kernel_rfl) (by kernel_rfl) (by kernel_rfl) (fun _ _ _ h => h) (Or.inl ⟨by rfl, ?_⟩) HB.out ?_
  rotate_left
  · intro w' hw'
    go_simp
    with_reducible rfl
  go_simp
  refine wpAnyH_take (i := 6) (v := ?_) rfl (by kernel_rfl) (by kernel_rfl) (by kernel_rfl) (fun _ _ _ h => h) (Or.inl ⟨by rfl, ?_⟩) HB.out ?_
  rotate_left
  · intro w' hw'
    go_simp
    with_reducible rfl
  go_simp
  refine wpAnyH_take (i := 7) (v := ?_) rfl (by kernel_rfl) (by kernel_rfl) (by kernel_rfl) (fun _ _ _ h => h) (Or.inl ⟨by rfl, ?_⟩) HB.out ?_
  rotate_left
  · intro w' hw'
    go_simp
    with_reducible rfl
  go_simp
  refine wpAnyH_take (i := 9) (v := ?_) rfl (by kernel_rfl) (by kernel_rfl) (by kernel_rfl) (fun _ _ _ h => h) (Or.inl ⟨by rfl, ?_⟩) HB.out ?_
  rotate_left
  · intro w' hw'
    go_simp
    with_reducible rfl
  go_simp
  refine wpAnyH_take (i := 12) (v := ?_) rfl (by kernel_rfl) (by kernel_rfl) (by kernel_rfl) (fun _ _ _ h => h) (Or.inl ⟨by rfl, ?_⟩) HB.out ?_
  rotate_left
  · intro w' hw'
    go_simp
    with_reducible rfl
  go_simp
  refine wpAnyH_take (i := 13) (v := ?_) rfl (by kernel_rfl) (by kernel_rfl) (by kernel_rfl) (fun _ _ _ h => h) (Or.inl ⟨by rfl, ?_⟩) HB.out ?_
  rotate_left
  · intro w' hw'
    go_simp
    with_reducible rfl
  go_simp
  refine wpAnyH_take (i := 8) (v := ?_) rfl (by kernel_rfl) (by kernel_rfl) (by kernel_rfl) (fun _ _ _ h => h) (Or.inl ⟨by rfl, ?_⟩) HB.out ?_
  rotate_left
  · intro w' hw'
    have x0 := hw'.1.cell 16 rfl; have x1 := hw'.1.cell 17 rfl; have x2 := hw'.1.cell 18 rfl; have x3 := hw'.1.cell 19 rfl; have x4 := hw'.1.cell 20 rfl; have x5 := hw'.1.cell 21 rfl; have x6 := hw'.1.cell 22 rfl
    go_simp
    with_reducible rfl
  go_simp
  refine wpAnyH_take (i := 11) (v := ?_) rfl (by kernel_rfl) (by kernel_rfl) (by kernel_rfl) (fun _ _ _ h => h) (Or.inl ⟨by rfl, ?_⟩) HB.out ?_
  rotate_left
  · intro w' hw'
    have x0 := hw'.2.cell 0 rfl; have x1 := hw'.2.cell 1 rfl; have x2 := hw'.2.cell 2 rfl; have x3 := hw'.2.cell 3 rfl
    go_simp
    with_reducible rfl
  go_simp
  refine wpAnyH_ready (rs := [4, 10]) (by kernel_rfl) (by simp) ?_
  refine AllReadyH.cons rfl (fun K hK => ?_) (AllReadyH.cons rfl (fun K hK => ?_) AllReadyH.nil)
  · have xx : w1.drew.cell? ⟨q, 0, none⟩ = some fv := HQ.out.cell 0 rfl
    go_simp
    clear xx
    refine hK.out _ _ HB.out (fun _ => ?_)
    clear hK K
    refine wpAnyH_ready (rs := [10]) (by kernel_rfl) (by simp) ?_
    refine AllReadyH.cons rfl (fun K hK => ?_) AllReadyH.nil
    go_simp
    go_at_call 67
    refine (calong20 s.way HY.out x.wa x.wc cmd _ (show EntsAt w1.drew x.wa x.wc (freshD s.way.D) from HEN.out.below ((Below.refl _ w1).drew))).mono ?_
    rintro e w2 ⟨⟨da, dc, rfl, hE2, hge⟩, hb2⟩
    have HE2 := Lib.hid hE2
    have HGE := Lib.hid hge
    have HB2 := Lib.hid (show Below w1.heap.size w1 w2 from (Below.refl _ w1).drew.trans hb2)
    clear HB
    have HB := Lib.hid (show RowAt w2 p (lkRow x s) ∧ RowAt w2 w.heap.size [.int .i64 kind, .int .i64 nr, .int .i64 ns, .bool pf] from ⟨HL.out.row.below HB2.out, HC.out.below HB2.out⟩)
    clear hE2 hge hb2
    change K _ _
    refine hK.out _ _ HB.out (fun _ => ?_)
    clear hK K
    refine wpAnyH_take (i := 14) (v := ?_) rfl (by kernel_rfl) (by kernel_rfl) (by kernel_rfl) (fun _ _ _ h => h) (Or.inl ⟨by rfl, ?_⟩) HB.out ?_
    rotate_left
    · intro w' hw'
      go_simp
      with_reducible rfl
    go_simp
    refine wpAnyH_ready (rs := [15]) (by kernel_rfl) (by simp) ?_
    refine AllReadyH.cons rfl (fun K hK => ?_) AllReadyH.nil
    go_simp
    obtain ⟨w3, hw3⟩ : ∃ w3, w3 = w2.alloc (.cells #[.string s.way.tb, .int .i64 s.way.tn, .string s.way.fb, .int .i64 s.way.fn, .bool cmd, .bool (!cmd), .slice da s.way.D.length dc, .int .i64 kind, .int .i64 nr, .int .i64 ns, .bool pf, .int .i64 pid, .string info] 74) := ⟨_, rfl⟩
    have HM := Lib.hid (show AtL encFv w3 (some ⟨w2.heap.size, 0, none⟩) [⟨⟨s.way, cmd, kind, nr, ns, pf, pid, info⟩, da, dc⟩] by rw [hw3]; exact AtL.made encFv 74 w2 w2.heap.size ⟨⟨s.way, cmd, kind, nr, ns, pf, pid, info⟩, da, dc⟩ _ rfl rfl)
    have HB3 := Lib.hid (show Below w1.heap.size w1 w3 by rw [hw3]; exact HB2.out.alloc HB2.out.size _)
    have HE3 := Lib.hid (show EntsAt w3 da dc (freshD s.way.D) by rw [hw3]; exact HE2.out.alloc _)
    have HS3 := Lib.hid (show w2.heap.size < w3.heap.size by rw [hw3]; simp)
    rw [← hw3]
    clear hw3 HB
    have HB := Lib.hid (show RowAt w3 p (lkRow x s) ∧ RowAt w3 w.heap.size [.int .i64 kind, .int .i64 nr, .int .i64 ns, .bool pf] from ⟨HL.out.row.below HB3.out, HC.out.below HB3.out⟩)
    refine hK.out _ _ HB.out (fun _ => ?_)
    clear hK K
    obtain ⟨v4, w4, hrun, hown, hgr, hwh⟩ := run_append_one encFv 74 47 47 Tryz.underlying47 infoFv rfl (by decide) w3 0 fv L (HO.out.below HB3.out).frames w2.heap.size 1 ⟨⟨s.way, cmd, kind, nr, ns, pf, pid, info⟩, da, dc⟩ HM.out (Nat.le_trans HLEN.out (by omega)) (Nat.zero_le _)
    obtain ⟨hr4, ho4, ht4, hg4⟩ := OtAt.tell (u := ⟨⟨s.way, cmd, kind, nr, ns, pf, pid, info⟩, da, dc⟩) HO0.out (HB1.out.trans (HB3.out.mono HB1.out.size)) HE3.out (fun a ea => ⟨Nat.le_trans HB1.out.size (HGE.out a ea).1, Nat.lt_trans (HGE.out a ea).2 HS3.out⟩) hown hgr hwh
    obtain ⟨av, nv, cv, rfl⟩ := OwnL.form' hown
    have HRUN := Lib.hid hrun
    have HR4 := Lib.hid hr4
    have HE4 := Lib.hid (HEND.out _ _ ⟨_, _, _, ho4, rfl⟩ ht4 hg4)
    have HPR := Lib.hid (show RowAt w4 p (lkRow x s) ∧ RowAt w4 w.heap.size [.int .i64 kind, .int .i64 nr, .int .i64 ns, .bool pf] from ⟨HB.out.1.block (hgr.block p (RowAt.lt (v := x.an) HB.out.1) fun e => HFP.out e.symm) hgr.size, HB.out.2.block (hgr.block _ (RowAt.lt HB.out.2) fun e => HFC.out e.symm) hgr.size⟩)
    clear hrun hown hgr hwh hr4 ho4 ht4 hg4
    refine wpAnyH_ready (rs := [16]) (by kernel_rfl) (by simp) ?_
    refine AllReadyH.cons rfl (fun K hK => ?_) AllReadyH.nil
    rw [if_pos (by kernel_rfl)]
    refine wp_append_run (.tmp 16) (.tmp 27) rfl rfl rfl HRUN.out ?_
    go_simp
    clear HB
    have HB := HPR
    refine hK.out _ _ HB.out (fun _ => ?_)
    clear hK K
    refine wpAnyH_take (i := 17) (v := ?_) rfl (by kernel_rfl) (by kernel_rfl) (by kernel_rfl) (fun _ _ _ h => h) (Or.inl ⟨by rfl, ?_⟩) HB.out ?_
    rotate_left
    · intro w' hw'
      go_simp
      with_reducible rfl
    go_simp
    refine wpAnyH_take (i := 18) (v := ?_) rfl (by kernel_rfl) (by kernel_rfl) (by kernel_rfl) (fun _ _ _ h => h) (Or.inl ⟨by rfl, ?_⟩) HB.out ?_
    rotate_left
    · intro w' hw'
      go_simp
      with_reducible rfl
    go_simp
    obtain ⟨xx, xy, -⟩ := HR4.out.get 0 rfl
    refine wpAnyH_ready (rs := [19]) (by kernel_rfl) (by simp) ?_
    refine AllReadyH.cons rfl (fun K hK => ?_) AllReadyH.nil
    go_simp
    clear xx xy HB
    have HB := Lib.hid (show RowAt (w4.setCell ⟨q, 0, none⟩ (.slice av nv cv)) p (lkRow x s) ∧ RowAt (w4.setCell ⟨q, 0, none⟩ (.slice av nv cv)) w.heap.size [.int .i64 kind, .int .i64 nr, .int .i64 ns, .bool pf] from ⟨HPR.out.1.other _ fun e => HPQ.out e.symm, HPR.out.2.other _ hqc⟩)
    refine hK.out _ _ HB.out (fun _ => ?_)
    clear hK K
    refine wpAnyH_done (by kernel_rfl) ?_ _
    exact bodyPost_end (v := .tuple #[]) (by simp [results, Tryz.results173, go_sem]) rfl HE4.out
  · go_simp
    go_at_call 67
    refine (calong20 s.way HY.out x.wa x.wc cmd _ (show EntsAt w1.drew x.wa x.wc (freshD s.way.D) from HEN.out.below ((Below.refl _ w1).drew))).mono ?_
    rintro e w2 ⟨⟨da, dc, rfl, hE2, hge⟩, hb2⟩
    have HE2 := Lib.hid hE2
    have HGE := Lib.hid hge
    have HB2 := Lib.hid (show Below w1.heap.size w1 w2 from (Below.refl _ w1).drew.trans hb2)
    clear HB
    have HB := Lib.hid (show RowAt w2 p (lkRow x s) ∧ RowAt w2 w.heap.size [.int .i64 kind, .int .i64 nr, .int .i64 ns, .bool pf] from ⟨HL.out.row.below HB2.out, HC.out.below HB2.out⟩)
    clear hE2 hge hb2
    change K _ _
    refine hK.out _ _ HB.out (fun _ => ?_)
    clear hK K
    refine wpAnyH_take (i := 14) (v := ?_) rfl (by kernel_rfl) (by kernel_rfl) (by kernel_rfl) (fun _ _ _ h => h) (Or.inl ⟨by rfl, ?_⟩) HB.out ?_
    rotate_left
    · intro w' hw'
      go_simp
      with_reducible rfl
    go_simp
    refine wpAnyH_ready (rs := [4, 15]) (by kernel_rfl) (by simp) ?_
    refine AllReadyH.cons rfl (fun K hK => ?_) (AllReadyH.cons rfl (fun K hK => ?_) AllReadyH.nil)
    · have xx : w2.cell? ⟨q, 0, none⟩ = some fv := (HQ.out.below HB2.out).cell 0 rfl
      go_simp
      clear xx
      refine hK.out _ _ HB.out (fun _ => ?_)
      clear hK K
      refine wpAnyH_ready (rs := [15]) (by kernel_rfl) (by simp) ?_
      refine AllReadyH.cons rfl (fun K hK => ?_) AllReadyH.nil
      go_simp
      obtain ⟨w3, hw3⟩ : ∃ w3, w3 = w2.alloc (.cells #[.string s.way.tb, .int .i64 s.way.tn, .string s.way.fb, .int .i64 s.way.fn, .bool cmd, .bool (!cmd), .slice da s.way.D.length dc, .int .i64 kind, .int .i64 nr, .int .i64 ns, .bool pf, .int .i64 pid, .string info] 74) := ⟨_, rfl⟩
      have HM := Lib.hid (show AtL encFv w3 (some ⟨w2.heap.size, 0, none⟩) [⟨⟨s.way, cmd, kind, nr, ns, pf, pid, info⟩, da, dc⟩] by rw [hw3]; exact AtL.made encFv 74 w2 w2.heap.size ⟨⟨s.way, cmd, kind, nr, ns, pf, pid, info⟩, da, dc⟩ _ rfl rfl)
      have HB3 := Lib.hid (show Below w1.heap.size w1 w3 by rw [hw3]; exact HB2.out.alloc HB2.out.size _)
      have HE3 := Lib.hid (show EntsAt w3 da dc (freshD s.way.D) by rw [hw3]; exact HE2.out.alloc _)
      have HS3 := Lib.hid (show w2.heap.size < w3.heap.size by rw [hw3]; simp)
      rw [← hw3]
      clear hw3 HB
      have HB := Lib.hid (show RowAt w3 p (lkRow x s) ∧ RowAt w3 w.heap.size [.int .i64 kind, .int .i64 nr, .int .i64 ns, .bool pf] from ⟨HL.out.row.below HB3.out, HC.out.below HB3.out⟩)
      refine hK.out _ _ HB.out (fun _ => ?_)
      clear hK K
      obtain ⟨v4, w4, hrun, hown, hgr, hwh⟩ := run_append_one encFv 74 47 47 Tryz.underlying47 infoFv rfl (by decide) w3 0 fv L (HO.out.below HB3.out).frames w2.heap.size 1 ⟨⟨s.way, cmd, kind, nr, ns, pf, pid, info⟩, da, dc⟩ HM.out (Nat.le_trans HLEN.out (by omega)) (Nat.zero_le _)
      obtain ⟨hr4, ho4, ht4, hg4⟩ := OtAt.tell (u := ⟨⟨s.way, cmd, kind, nr, ns, pf, pid, info⟩, da, dc⟩) HO0.out (HB1.out.trans (HB3.out.mono HB1.out.size)) HE3.out (fun a ea => ⟨Nat.le_trans HB1.out.size (HGE.out a ea).1, Nat.lt_trans (HGE.out a ea).2 HS3.out⟩) hown hgr hwh
      obtain ⟨av, nv, cv, rfl⟩ := OwnL.form' hown
      have HRUN := Lib.hid hrun
      have HR4 := Lib.hid hr4
      have HE4 := Lib.hid (HEND.out _ _ ⟨_, _, _, ho4, rfl⟩ ht4 hg4)
      have HPR := Lib.hid (show RowAt w4 p (lkRow x s) ∧ RowAt w4 w.heap.size [.int .i64 kind, .int .i64 nr, .int .i64 ns, .bool pf] from ⟨HB.out.1.block (hgr.block p (RowAt.lt (v := x.an) HB.out.1) fun e => HFP.out e.symm) hgr.size, HB.out.2.block (hgr.block _ (RowAt.lt HB.out.2) fun e => HFC.out e.symm) hgr.size⟩)
      clear hrun hown hgr hwh hr4 ho4 ht4 hg4
      refine wpAnyH_ready (rs := [16]) (by kernel_rfl) (by simp) ?_
      refine AllReadyH.cons rfl (fun K hK => ?_) AllReadyH.nil
      rw [if_pos (by kernel_rfl)]
      refine wp_append_run (.tmp 16) (.tmp 27) rfl rfl rfl HRUN.out ?_
      go_simp
      clear HB
      have HB := HPR
      refine hK.out _ _ HB.out (fun _ => ?_)
      clear hK K
      refine wpAnyH_take (i := 17) (v := ?_) rfl (by kernel_rfl) (by kernel_rfl) (by kernel_rfl) (fun _ _ _ h => h) (Or.inl ⟨by rfl, ?_⟩) HB.out ?_
      rotate_left
      · intro w' hw'
        go_simp
        with_reducible rfl
      go_simp
      refine wpAnyH_take (i := 18) (v := ?_) rfl (by kernel_rfl) (by kernel_rfl) (by kernel_rfl) (fun _ _ _ h => h) (Or.inl ⟨by rfl, ?_⟩) HB.out ?_
      rotate_left
      · intro w' hw'
        go_simp
        with_reducible rfl
      go_simp
      obtain ⟨xx, xy, -⟩ := HR4.out.get 0 rfl
      refine wpAnyH_ready (rs := [19]) (by kernel_rfl) (by simp) ?_
      refine AllReadyH.cons rfl (fun K hK => ?_) AllReadyH.nil
      go_simp
      clear xx xy HB
      have HB := Lib.hid (show RowAt (w4.setCell ⟨q, 0, none⟩ (.slice av nv cv)) p (lkRow x s) ∧ RowAt (w4.setCell ⟨q, 0, none⟩ (.slice av nv cv)) w.heap.size [.int .i64 kind, .int .i64 nr, .int .i64 ns, .bool pf] from ⟨HPR.out.1.other _ fun e => HPQ.out e.symm, HPR.out.2.other _ hqc⟩)
      refine hK.out _ _ HB.out (fun _ => ?_)
      clear hK K
      refine wpAnyH_done (by kernel_rfl) ?_ _
      exact bodyPost_end (v := .tuple #[]) (by simp [results, Tryz.results173, go_sem]) rfl HE4.out
    · go_simp
      obtain ⟨w3, hw3⟩ : ∃ w3, w3 = w2.alloc (.cells #[.string s.way.tb, .int .i64 s.way.tn, .string s.way.fb, .int .i64 s.way.fn, .bool cmd, .bool (!cmd), .slice da s.way.D.length dc, .int .i64 kind, .int .i64 nr, .int .i64 ns, .bool pf, .int .i64 pid, .string info] 74) := ⟨_, rfl⟩
      have HM := Lib.hid (show AtL encFv w3 (some ⟨w2.heap.size, 0, none⟩) [⟨⟨s.way, cmd, kind, nr, ns, pf, pid, info⟩, da, dc⟩] by rw [hw3]; exact AtL.made encFv 74 w2 w2.heap.size ⟨⟨s.way, cmd, kind, nr, ns, pf, pid, info⟩, da, dc⟩ _ rfl rfl)
      have HB3 := Lib.hid (show Below w1.heap.size w1 w3 by rw [hw3]; exact HB2.out.alloc HB2.out.size _)
      have HE3 := Lib.hid (show EntsAt w3 da dc (freshD s.way.D) by rw [hw3]; exact HE2.out.alloc _)
      have HS3 := Lib.hid (show w2.heap.size < w3.heap.size by rw [hw3]; simp)
      rw [← hw3]
      clear hw3 HB
      have HB := Lib.hid (show RowAt w3 p (lkRow x s) ∧ RowAt w3 w.heap.size [.int .i64 kind, .int .i64 nr, .int .i64 ns, .bool pf] from ⟨HL.out.row.below HB3.out, HC.out.below HB3.out⟩)
      refine hK.out _ _ HB.out (fun _ => ?_)
      clear hK K
      have xx : w3.cell? ⟨q, 0, none⟩ = some fv := (HQ.out.below HB3.out).cell 0 rfl
      refine wpAnyH_ready (rs := [4]) (by kernel_rfl) (by simp) ?_
      refine AllReadyH.cons rfl (fun K hK => ?_) AllReadyH.nil
      go_simp
      clear xx
      refine hK.out _ _ HB.out (fun _ => ?_)
      clear hK K
      obtain ⟨v4, w4, hrun, hown, hgr, hwh⟩ := run_append_one encFv 74 47 47 Tryz.underlying47 infoFv rfl (by decide) w3 0 fv L (HO.out.below HB3.out).frames w2.heap.size 1 ⟨⟨s.way, cmd, kind, nr, ns, pf, pid, info⟩, da, dc⟩ HM.out (Nat.le_trans HLEN.out (by omega)) (Nat.zero_le _)
      obtain ⟨hr4, ho4, ht4, hg4⟩ := OtAt.tell (u := ⟨⟨s.way, cmd, kind, nr, ns, pf, pid, info⟩, da, dc⟩) HO0.out (HB1.out.trans (HB3.out.mono HB1.out.size)) HE3.out (fun a ea => ⟨Nat.le_trans HB1.out.size (HGE.out a ea).1, Nat.lt_trans (HGE.out a ea).2 HS3.out⟩) hown hgr hwh
      obtain ⟨av, nv, cv, rfl⟩ := OwnL.form' hown
      have HRUN := Lib.hid hrun
      have HR4 := Lib.hid hr4
      have HE4 := Lib.hid (HEND.out _ _ ⟨_, _, _, ho4, rfl⟩ ht4 hg4)
      have HPR := Lib.hid (show RowAt w4 p (lkRow x s) ∧ RowAt w4 w.heap.size [.int .i64 kind, .int .i64 nr, .int .i64 ns, .bool pf] from ⟨HB.out.1.block (hgr.block p (RowAt.lt (v := x.an) HB.out.1) fun e => HFP.out e.symm) hgr.size, HB.out.2.block (hgr.block _ (RowAt.lt HB.out.2) fun e => HFC.out e.symm) hgr.size⟩)
      clear hrun hown hgr hwh hr4 ho4 ht4 hg4
      refine wpAnyH_ready (rs := [16]) (by kernel_rfl) (by simp) ?_
      refine AllReadyH.cons rfl (fun K hK => ?_) AllReadyH.nil
      rw [if_pos (by kernel_rfl)]
      refine wp_append_run (.tmp 16) (.tmp 27) rfl rfl rfl HRUN.out ?_
      go_simp
      clear HB
      have HB := HPR
      refine hK.out _ _ HB.out (fun _ => ?_)
      clear hK K
      refine wpAnyH_take (i := 17) (v := ?_) rfl (by kernel_rfl) (by kernel_rfl) (by kernel_rfl) (fun _ _ _ h => h) (Or.inl ⟨by rfl, ?_⟩) HB.out ?_
      rotate_left
      · intro w' hw'
        go_simp
        with_reducible rfl
      go_simp
      refine wpAnyH_take (i := 18) (v := ?_) rfl (by kernel_rfl) (by kernel_rfl) (by kernel_rfl) (fun _ _ _ h => h) (Or.inl ⟨by rfl, ?_⟩) HB.out ?_
      rotate_left
      · intro w' hw'
        go_simp
        with_reducible rfl
      go_simp
      obtain ⟨xx, xy, -⟩ := HR4.out.get 0 rfl
      refine wpAnyH_ready (rs := [19]) (by kernel_rfl) (by simp) ?_
      refine AllReadyH.cons rfl (fun K hK => ?_) AllReadyH.nil
      go_simp
      clear xx xy HB
      have HB := Lib.hid (show RowAt (w4.setCell ⟨q, 0, none⟩ (.slice av nv cv)) p (lkRow x s) ∧ RowAt (w4.setCell ⟨q, 0, none⟩ (.slice av nv cv)) w.heap.size [.int .i64 kind, .int .i64 nr, .int .i64 ns, .bool pf] from ⟨HPR.out.1.other _ fun e => HPQ.out e.symm, HPR.out.2.other _ hqc⟩)
      refine hK.out _ _ HB.out (fun _ => ?_)
      clear hK K
      refine wpAnyH_done (by kernel_rfl) ?_ _
      exact bodyPost_end (v := .tuple #[]) (by simp [results, Tryz.results173, go_sem]) rfl HE4.out
end Go.Proofs.YtgoaepjjegblnaaGreatDoor
namespace Go.Proofs.YtgoaepjjegblnaaGreatDoor
open Go.RowKit
set_option maxRecDepth 20000
theorem usual_any (w : World) : Calls Tryz.prog 44 #[] w fun e w' => e = .returned (.agg #[.bool false, .bool false, .int .i64 64, .int .i64 4, .int .i64 20, .int .i64 5]) ∧ Below w.heap.size w w' := by
  go_enter Tryz.func44, Tryz.ntmps44
  go_wp2
  exact bodyPost_ret (v := .agg #[.bool false, .bool false, .int .i64 64, .int .i64 4, .int .i64 20, .int .i64 5]) (by simp [results, Tryz.results44, go_sem]) rfl ⟨rfl, (Below.refl _ w).alloc (Nat.le_refl _) _⟩
theorem xbit_any (on : Bool) (b : Int) (w : World) : Calls Tryz.prog 228 #[.bool on, .int .u8 b] w fun e w' => e = .returned (.int .u8 (if on then b else 0)) ∧ w' = w := by
  cases on
  all_goals
    go_enter Tryz.func228, Tryz.ntmps228
    go_wp2
    go_ret
    exact ⟨rfl, rfl⟩
/-- a number and its bytes, as a text -/
def fieldT (x : UInt8) (l : List UInt8) : ByteArray := ⟨(x :: UInt8.ofNat l.length :: l).toArray⟩
theorem field_any (x : UInt8) (g cap : Nat) (l : List UInt8) (w : World) (h : BytesAt w g l) (hl : l.length ≤ 2) :
    Calls Tryz.prog 227 #[.int .u8 ((x.toNat : Nat) : Int), .slice (some ⟨g, 0, none⟩) l.length cap] w fun e w' => e = .returned (.string (fieldT x l)) ∧ Below w.heap.size w w' := by
  have hw : (l.length : Int) = (((UInt8.ofNat l.length).toNat : Nat) : Int) := by
    have e : (UInt8.ofNat l.length).toNat = l.length % 256 := rfl
    omega
  have hc1 : (convert 194 9 (.slice (some ⟨w.heap.size, 0, none⟩) 2 2)).run Tryz.prog (w.alloc (.cells #[.int .u8 ((x.toNat : Nat) : Int), .int .u8 (l.length : Int)] 5)) = .ok (.string ⟨#[x, UInt8.ofNat l.length]⟩) (w.alloc (.cells #[.int .u8 ((x.toNat : Nat) : Int), .int .u8 (l.length : Int)] 5)) :=
    BytesAt.conv (cap := 2) (BytesAt.two w w.heap.size ((x.toNat : Nat) : Int) _ x (UInt8.ofNat l.length) rfl hw rfl)
  have hc2 := BytesAt.conv (cap := cap) (h.below ((Below.refl _ w).alloc (Nat.le_refl _) (.cells #[.int .u8 ((x.toNat : Nat) : Int), .int .u8 (l.length : Int)] 5)))
  have ha := fun (W : World) => run_string_add_sum (P := Tryz.prog) (w := W) ⟨[x, UInt8.ofNat l.length].toArray⟩ ⟨l.toArray⟩ (by show 2 + l.toArray.size ≤ _; simp; omega)
  have hr : (⟨[x, UInt8.ofNat l.length].toArray⟩ : ByteArray) ++ ⟨l.toArray⟩ = fieldT x l := bytes_ext' (by simp [ByteArray.data_append, fieldT])
  rw [hr] at ha
  generalize fieldT x l = T at *
  have HB := Lib.hid ((Below.refl _ w).alloc (Nat.le_refl _) (.cells #[.int .u8 ((x.toNat : Nat) : Int), .int .u8 (l.length : Int)] 5))
  clear hr h hw
  go_enter Tryz.func227, Tryz.ntmps227
  go_wp2
  go_ret
  exact ⟨rfl, HB.out⟩
end Go.Proofs.YtgoaepjjegblnaaGreatDoor
