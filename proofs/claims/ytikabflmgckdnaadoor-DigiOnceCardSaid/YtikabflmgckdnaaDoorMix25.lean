/-
The landed code's Sent.
The landed code's Sent once more: its digipeaters are the call's own.
-/
import Derived.Test.YtikabflmgckdnaaDoorMix04
import Derived.Test.YtikabflmgckdnaaDoorMix24
import Derived.Test.YtikabflmgckdnaaDoorPathCOf
import Derived.Lib.SmallJoins
import Derived.Lib.ItoaNum
import Derived.Lib.QuietBelow
import Derived.Lib.IndexBytes
import Derived.IntWalk
namespace Go.Proofs.YtikabflmgckdnaaDoor
open Go.RowKit Go.Sort
set_option maxRecDepth 20000
/-- a call is stored again into a slice of the call's own -/
theorem OwnE.again {T : TypeId} {w : World} {B g n c : Nat} {L : List Ent} (h : OwnE T w B (.slice (some ⟨g, 0, none⟩) n c) L) (i : Nat) (hi : i < L.length) :
    OwnE T ((w.setCell ⟨g, i * 3, none⟩ (.string L[i].1)).setCell ⟨g, i * 3 + 1, none⟩ (.int .i64 L[i].2.1)) B (.slice (some ⟨g, 0, none⟩) n c) L ∧ w.grownBy ((w.setCell ⟨g, i * 3, none⟩ (.string L[i].1)).setCell ⟨g, i * 3 + 1, none⟩ (.int .i64 L[i].2.1)) (some g) := by
  have hn : n = L.length := by
    obtain ⟨a', c', hv, _⟩ := h.ents
    simp only [Value.slice.injEq] at hv
    exact hv.2.1
  subst hn
  obtain ⟨k0, k1, _⟩ := entsV_at L i hi
  obtain ⟨h1, h2⟩ := World.ownsRow.stored h (i * 3) (.string L[i].1)
  rw [set_same _ _ _ k0] at h1
  obtain ⟨h3, h4⟩ := World.ownsRow.stored h1 (i * 3 + 1) (.int .i64 L[i].2.1)
  rw [set_same _ _ _ k1] at h3
  exact ⟨h3, grown_trans h2 h4⟩
/-- the digipeaters when the next one has sent it -/
def sentD (D : List Ent) : List Ent := markD D (fstD D)
/-- what lies in memory within Sent's loop -/
structure SentAt (w W : World) (g c : Nat) (v0 v1 v2 v3 v4 v5 v6 : Value) (L : List Ent) : Prop where
  own : OwnE 92 W (w.heap.size + 2) (.slice (some ⟨g, 0, none⟩) L.length c) L
  box : P7 W w.heap.size v0 v1 v2 v3 v4 v5 v6
  res : P7 W (w.heap.size + 1) (.string ⟨#[]⟩) (.int .i64 0) (.string ⟨#[]⟩) (.int .i64 0) (.bool false) (.bool false) (.slice none 0 0)
  bel : Below w.heap.size w W
theorem SentAt.below {w W W' : World} {g c : Nat} {v0 v1 v2 v3 v4 v5 v6 : Value} {L : List Ent} (h : SentAt w W g c v0 v1 v2 v3 v4 v5 v6 L) (hb : Below W.heap.size W W') : SentAt w W' g c v0 v1 v2 v3 v4 v5 v6 L :=
  ⟨h.own.below hb, h.box.below hb, h.res.below hb, h.bel.trans (hb.mono h.bel.size)⟩
theorem SentAt.grown {w W W' : World} {g c : Nat} {v0 v1 v2 v3 v4 v5 v6 : Value} {L : List Ent} (h : SentAt w W g c v0 v1 v2 v3 v4 v5 v6 L) (ho : OwnE 92 W' (w.heap.size + 2) (.slice (some ⟨g, 0, none⟩) L.length c) L) (hg : W.grownBy W' (some g)) : SentAt w W' g c v0 v1 v2 v3 v4 v5 v6 L := by
  have hge : w.heap.size + 2 ≤ g := (h.own.ge rfl).1
  have hb := h.box.k0.lt
  have hr := h.res.k0.lt
  exact ⟨ho, h.box.block (hg.block _ hb (fun e => by have e' : w.heap.size = g := (Option.some.inj e); omega)) hg.size, h.res.block (hg.block _ hr (fun e => by have e' : w.heap.size + 1 = g := (Option.some.inj e); omega)) hg.size, h.bel.grown hg h.bel.size (fun k hk => by have e' : g = k := Option.some.inj hk; omega)⟩
/-- behind the path's own cells being written anew -/
structure SentX (w X : World) (B : Nat) (v v0 v1 v2 v3 v4 v5 : Value) (D : List Ent) : Prop where
  own : OwnE 92 X B v D
  base : w.heap.size + 2 ≤ B
  box : P7 X w.heap.size v0 v1 v2 v3 v4 v5 v
  res : P7 X (w.heap.size + 1) (.string ⟨#[]⟩) (.int .i64 0) (.string ⟨#[]⟩) (.int .i64 0) (.bool false) (.bool false) (.slice none 0 0)
  bel : Below w.heap.size w X
theorem SentX.below {w X X' : World} {B : Nat} {v v0 v1 v2 v3 v4 v5 : Value} {D : List Ent} (h : SentX w X B v v0 v1 v2 v3 v4 v5 D) (hb : Below X.heap.size X X') : SentX w X' B v v0 v1 v2 v3 v4 v5 D :=
  ⟨h.own.below hb, h.base, h.box.below hb, h.res.below hb, h.bel.trans (hb.mono h.bel.size)⟩
theorem sent_put {w W w5 : World} {g c : Nat} {v v0 v1 v2 v3 v4 v5 v6 : Value} {L D : List Ent} (h : SentAt w W g c v0 v1 v2 v3 v4 v5 v6 L) (hb : Below W.heap.size W w5) (ho : OwnE 92 w5 W.heap.size v D) :
    SentX w (((((((w5.setCell ⟨w.heap.size, 0, none⟩ v0).setCell ⟨w.heap.size, 1, none⟩ v1).setCell ⟨w.heap.size, 2, none⟩ v2).setCell ⟨w.heap.size, 3, none⟩ v3).setCell ⟨w.heap.size, 4, none⟩ v4).setCell ⟨w.heap.size, 5, none⟩ v5).setCell ⟨w.heap.size, 6, none⟩ v) W.heap.size v v0 v1 v2 v3 v4 v5 D := by
  have h5 := h.below hb
  have hl := h.res.k0.lt
  refine ⟨own7 ho (by omega) _ _ _ _ _ _ _, by omega, stored7 v0 v1 v2 v3 v4 v5 v h5.box, ?_, set7_below h5.bel (Nat.le_refl _) _ _ _ _ _ _ _⟩
  exact ((((((h5.res.other _ (by omega)).other _ (by omega)).other _ (by omega)).other _ (by omega)).other _ (by omega)).other _ (by omega)).other _ (by omega)
theorem SentX.mark {w X : World} {B g n c : Nat} {v0 v1 v2 v3 v4 v5 : Value} {D : List Ent} (h : SentX w X B (.slice (some ⟨g, 0, none⟩) n c) v0 v1 v2 v3 v4 v5 D) (i : Nat) (hi : i < D.length) :
    SentX w (X.setCell ⟨g, i * 3 + 2, none⟩ (.bool true)) B (.slice (some ⟨g, 0, none⟩) n c) v0 v1 v2 v3 v4 v5 (markD D i) := by
  obtain ⟨h1, h2⟩ := h.own.mark i hi
  have hge : B ≤ g := (h.own.ge rfl).1
  have hb := h.base
  exact ⟨h1, hb, h.box.other _ (by omega), h.res.other _ (by omega), h.bel.setCell (p := ⟨g, i * 3 + 2, none⟩) (by show w.heap.size ≤ g; omega) _⟩
set_option maxHeartbeats 2000000 in
theorem sent_any (tb fb : ByteArray) (tn fn : Int) (tm fm : Bool) (a : Option Addr) (cap : Nat) (D : List Ent) (w : World) (hD : D.length ≤ 900) (hE : EntsAt w a cap D) (ht : tb.size ≤ 140737488351232) (hf : fb.size ≤ 140737488351232) (hS : ∀ e ∈ D, e.1.size ≤ 140737488351232) :
    Calls Tryd.prog 27 #[.agg #[.string tb, .int .i64 tn, .string fb, .int .i64 fn, .bool tm, .bool fm, .slice a D.length cap]] w fun e w' => (∃ da dc, e = .returned (.tuple #[.agg #[.string tb, .int .i64 tn, .string fb, .int .i64 fn, .bool tm, .bool fm, .slice da D.length dc], .bool (decide (fstD D < D.length))]) ∧ EntsAt w' da dc (sentD D)) ∧ Below w.heap.size w w' := by
  have hb0 := (Below.refl _ w).alloc (Nat.le_refl _) (.cells #[.string tb, .int .i64 tn, .string fb, .int .i64 fn, .bool tm, .bool fm, .slice a D.length cap] 55)
  obtain ⟨W0, hW0⟩ : ∃ W0, W0 = (w.alloc (.cells #[.string tb, .int .i64 tn, .string fb, .int .i64 fn, .bool tm, .bool fm, .slice a D.length cap] 55)).alloc (.cells #[.string ⟨#[]⟩, .int .i64 0, .string ⟨#[]⟩, .int .i64 0, .bool false, .bool false, .slice none 0 0] 55) := ⟨_, rfl⟩
  have HB0 := Lib.hid (show Below w.heap.size w W0 from by rw [hW0]; exact hb0.alloc hb0.size _)
  have HP := Lib.hid (show P7 W0 w.heap.size _ _ _ _ _ _ _ from by rw [hW0]; exact (P7.new w _ rfl _ _ _ _ _ _ _ _).alloc _)
  have HR := Lib.hid (show P7 W0 (w.heap.size + 1) _ _ _ _ _ _ _ from by rw [hW0]; exact P7.new _ _ (by simp) _ _ _ _ _ _ _ _)
  have HZ := Lib.hid (show W0.heap.size = w.heap.size + 2 from by rw [hW0]; simp)
  have HAL := Lib.hid (fun W (h : Below w.heap.size w W) => all_any tb fb tn fn tm fm a cap D W (by omega) (hE.below h))
  obtain ⟨L, hL⟩ : ∃ L, L = (tb, tn, tm) :: (fb, fn, fm) :: D := ⟨_, rfl⟩
  have HOF := Lib.hid (show ∀ g c W, EntsAt W (some ⟨g, 0, none⟩) c L → Calls Tryd.prog 46 #[.slice (some ⟨g, 0, none⟩) L.length c] W fun e w' => ∃ v, e = .returned (.agg #[.string tb, .int .i64 tn, .string fb, .int .i64 fn, .bool tm, .bool fm, v]) ∧ OwnE 92 w' W.heap.size v D ∧ Below W.heap.size W w' from fun g c W h => by
    rw [show L.length = D.length + 2 from by rw [hL]; simp]
    exact of_any tb fb tn fn tm fm (some ⟨g, 0, none⟩) c D W (by omega) (hL ▸ h))
  have HFI := Lib.hid (fun da dc W (h : EntsAt W da dc D) => first_any da dc D W (by omega) h)
  have HAN := Lib.hid (show ∀ k (h : k < L.length) W, Calls Tryd.prog 37 #[.agg #[.string L[k].1, .int .i64 L[k].2.1]] W fun e w' => e = .returned (.agg #[.string L[k].1, .int .i64 L[k].2.1]) ∧ Below W.heap.size W w' from fun k h W => anew_any _ _ W (by
    have hm : L[k] ∈ ((tb, tn, tm) : Ent) :: (fb, fn, fm) :: D := hL ▸ List.getElem_mem h
    generalize L[k] = x at hm
    rcases List.mem_cons.1 hm with q | hm
    · rw [q]; exact ht
    · rcases List.mem_cons.1 hm with q | hm
      · rw [q]; exact hf
      · exact hS x hm))
  have HLL := Lib.hid (show L.length = D.length + 2 from by rw [hL]; simp)
  rw [← hL] at HAL
  have hLl : L.length ≤ 1000 := by have := HLL.out; omega
  have HAG := Lib.hid (fun (W : World) (B g c k : Nat) (hk : k < L.length) (h : OwnE 92 W B (.slice (some ⟨g, 0, none⟩) L.length c) L) => h.again k hk)
  have hle := fstD_le D
  have HSD := Lib.hid (show sentD D = markD D (fstD D) from rfl)
  generalize sentD D = S at *
  generalize fstD D = f at *
  have h2 : 2 ≤ L.length := by have := HLL.out; omega
  clear hE ht hf hS hb0 hL
  subst hW0
  go_enter Tryd.func27, Tryd.ntmps27
  obtain ⟨p0, q0, pl⟩ := HP.out.k0
  go_wp2_with (go_at_call 48; (with_reducible refine (HAL.out _ HB0.out).mono ?_); rintro e w1 ⟨v, rfl, hv, hb⟩; obtain ⟨g, c, rfl, hgb, -, hv'⟩ := hv.some_ (by omega); have HA := Lib.hid (show SentAt w w1 g c _ _ _ _ _ _ _ L from ⟨hv'.base (by have := HZ.out; simp at this ⊢), HP.out.below hb, HR.out.below hb, HB0.out.trans (hb.mono HB0.out.size)⟩); clear hb hv hv' hgb)
  clear HAL HB0 HP HR HZ p0 q0 pl
  go_loopw [12] (fun i wx => ∃ k : Nat, k ≤ L.length ∧ i = .int .i64 k ∧ Hid (SentAt w wx g c (.string tb) (.int .i64 tn) (.string fb) (.int .i64 fn) (.bool tm) (.bool fm) (.slice a D.length cap) L)) (fun i _ => L.length - (intOf i).toNat)
  case atStart => exact ⟨0, by omega, rfl, HA.out⟩
  case round =>
    obtain ⟨k, hk, rfl, HQ⟩ := hrel
    clear HA
    by_cases hlt : k < L.length
    · have dk : decide ((k : Int) < (L.length : Int)) = true := decide_eq_true (by omega)
      obtain ⟨g', o', hgo, hg, c0, c1, c2⟩ := (ents_of_own HQ.out.own).at_ k hlt
      simp only [Option.some.injEq, Addr.mk.injEq, and_true] at hgo
      obtain ⟨rfl, rfl⟩ := hgo
      rw [Nat.zero_add] at c0 c1 c2
      have HANK := Lib.hid (HAN.out k hlt)
      have HAGK := Lib.hid (fun W => HAG.out W (w.heap.size + 2) g c k hlt)
      generalize L[k] = d at *
      obtain ⟨db, dn, dm⟩ := d
      simp only at c0 c1 c2 HANK HAGK
      have HQ1 := Lib.hid (HQ.out.below ((Below.refl _ wr).alloc (Nat.le_refl _) (.cells #[.string db, .int .i64 dn, .bool dm] 92)))
      clear HQ
      go_wp2_with (go_at_call 37; (with_reducible refine (HANK.out _).mono ?_); rintro e w3 ⟨rfl, hb⟩; have HQ2 := Lib.hid (HQ1.out.below hb); have x0 := (hb.cell (p := ⟨g, k * 3, none⟩) (by simp; omega)).trans ((World.cell?_alloc_past _ _ _ hg).trans c0); have x1 := (hb.cell (p := ⟨g, k * 3 + 1, none⟩) (by simp; omega)).trans ((World.cell?_alloc_past _ _ _ hg).trans c1); have f0 := World.ownsRow.frozenAt HQ2.out.own (k * 3); have f1 := World.ownsRow.frozenAt HQ2.out.own (k * 3 + 1); clear hb)
      go_roundw
      case rel =>
        obtain ⟨h1, h2⟩ := HAGK.out _ HQ2.out.own
        exact ⟨k + 1, by omega, by go_num, HQ2.out.grown h1 h2⟩
      case measure => simp [intOf]; omega
    · obtain rfl : k = L.length := by omega
      have dk : decide ((L.length : Int) < (L.length : Int)) = false := decide_eq_false (by omega)
      obtain ⟨⟨p0, q0, pl⟩, ⟨p1, q1, -⟩, ⟨p2, q2, -⟩, ⟨p3, q3, -⟩, ⟨p4, q4, -⟩, ⟨p5, q5, -⟩, ⟨p6, q6, -⟩⟩ := HQ.out.box
      have HOFF := Lib.hid (HOF.out g c wr (ents_of_own HQ.out.own))
      clear HOF HAN HAG
      by_cases hlt : f < D.length
      · have ef : ((f : Int) == (D.length : Int)) = false := by rw [beq_eq_false_iff_ne]; omega
        have ed : decide (f < D.length) = true := decide_eq_true hlt
        have HED := Lib.hid ed
        clear ed
        go_wp2_with (first
          | (go_at_call 46; (with_reducible refine HOFF.out.mono ?_); rintro e w5 ⟨v, rfl, hv, hb⟩; obtain ⟨g2, c2, rfl, -, -, hv'⟩ := hv.some_ (by omega); have HX := Lib.hid (sent_put HQ.out hb hv'); have HQ5 := Lib.hid (HQ.out.below hb); clear hv hv' hb p0 q0 pl p1 q1 p2 q2 p3 q3 p4 q4 p5 q5 p6 q6; obtain ⟨⟨p0, q0, pl⟩, ⟨p1, q1, -⟩, ⟨p2, q2, -⟩, ⟨p3, q3, -⟩, ⟨p4, q4, -⟩, ⟨p5, q5, -⟩, ⟨p6, q6, -⟩⟩ := HQ5.out.box; have y6 := HX.out.box.k6.cell)
          | (go_at_call 47; (with_reducible refine (HFI.out (some ⟨g2, 0, none⟩) c2 _ (ents_of_own HX.out.own)).mono ?_); rintro e w6 ⟨rfl, hb⟩; have HX6 := Lib.hid (HX.out.below hb); clear hb; have y6' := HX6.out.box.k6.cell; have z2 := World.ownsRow.frozenAt HX6.out.own (f * 3 + 2); obtain ⟨gg, oo, hgo, hgl, -, -, z3⟩ := (ents_of_own HX6.out.own).at_ f hlt; simp only [Option.some.injEq, Addr.mk.injEq, and_true] at hgo; obtain ⟨rfl, rfl⟩ := hgo; rw [Nat.zero_add] at z3; have HX7 := Lib.hid (HX6.out.mark f hlt); obtain ⟨⟨t0, u0, tl⟩, ⟨t1, u1, -⟩, ⟨t2, u2, -⟩, ⟨t3, u3, -⟩, ⟨t4, u4, -⟩, ⟨t5, u5, -⟩, ⟨t6, u6, -⟩⟩ := HX7.out.box; obtain ⟨⟨r0, s0, rl⟩, ⟨r1, s1, -⟩, ⟨r2, s2, -⟩, ⟨r3, s3, -⟩, ⟨r4, s4, -⟩, ⟨r5, s5, -⟩, ⟨r6, s6, -⟩⟩ := HX7.out.res))
        have S7 := stored7 (m := w.heap.size + 1) (.string tb) (.int .i64 tn) (.string fb) (.int .i64 fn) (.bool tm) (.bool fm) (.slice (some ⟨g2, 0, none⟩) D.length c2) HX7.out.res
        have HOW := Lib.hid (own7 (m := w.heap.size + 1) HX7.out.own (by have := HX7.out.base; omega) (.string tb) (.int .i64 tn) (.string fb) (.int .i64 fn) (.bool tm) (.bool fm) (.slice (some ⟨g2, 0, none⟩) D.length c2))
        have HBF := Lib.hid (set7_below (m := w.heap.size + 1) HX7.out.bel (by omega) (.string tb) (.int .i64 tn) (.string fb) (.int .i64 fn) (.bool tm) (.bool fm) (.slice (some ⟨g2, 0, none⟩) D.length c2))
        exact bodyPost_ret (v := .tuple #[.agg #[.string tb, .int .i64 tn, .string fb, .int .i64 fn, .bool tm, .bool fm, .slice (some ⟨g2, 0, none⟩) D.length c2], .bool true]) (by simp [results, Tryd.results27, go_sem, S7.k0.cell, S7.k1.cell, S7.k2.cell, S7.k3.cell, S7.k4.cell, S7.k5.cell, S7.k6.cell]) rfl ⟨⟨some ⟨g2, 0, none⟩, c2, (by rw [HED.out]), (by rw [HSD.out]; exact ents_of_own HOW.out)⟩, HBF.out⟩
      · obtain rfl : f = D.length := by omega
        have ef : ((D.length : Int) == (D.length : Int)) = true := beq_self_eq_true _
        have ed : decide (D.length < D.length) = false := decide_eq_false (by omega)
        have HED := Lib.hid ed
        clear ed
        have HSD2 := Lib.hid (show S = D from by rw [HSD.out]; unfold markD; rw [List.getElem?_eq_none (Nat.le_refl _)])
        go_wp2_with (first
          | (go_at_call 46; (with_reducible refine HOFF.out.mono ?_); rintro e w5 ⟨v, rfl, hv, hb⟩; obtain ⟨da, dc, hvv, -⟩ := hv.ents; subst hvv; have HX := Lib.hid (sent_put HQ.out hb hv); have HQ5 := Lib.hid (HQ.out.below hb); clear hv hb p0 q0 pl p1 q1 p2 q2 p3 q3 p4 q4 p5 q5 p6 q6; obtain ⟨⟨p0, q0, pl⟩, ⟨p1, q1, -⟩, ⟨p2, q2, -⟩, ⟨p3, q3, -⟩, ⟨p4, q4, -⟩, ⟨p5, q5, -⟩, ⟨p6, q6, -⟩⟩ := HQ5.out.box; have y6 := HX.out.box.k6.cell)
          | (go_at_call 47; (with_reducible refine (HFI.out da dc _ (ents_of_own HX.out.own)).mono ?_); rintro e w6 ⟨rfl, hb⟩; have HX7 := Lib.hid (HX.out.below hb); clear hb; obtain ⟨⟨t0, u0, tl⟩, ⟨t1, u1, -⟩, ⟨t2, u2, -⟩, ⟨t3, u3, -⟩, ⟨t4, u4, -⟩, ⟨t5, u5, -⟩, ⟨t6, u6, -⟩⟩ := HX7.out.box; obtain ⟨⟨r0, s0, rl⟩, ⟨r1, s1, -⟩, ⟨r2, s2, -⟩, ⟨r3, s3, -⟩, ⟨r4, s4, -⟩, ⟨r5, s5, -⟩, ⟨r6, s6, -⟩⟩ := HX7.out.res))
        have S7 := stored7 (m := w.heap.size + 1) (.string tb) (.int .i64 tn) (.string fb) (.int .i64 fn) (.bool tm) (.bool fm) (.slice da D.length dc) HX7.out.res
        have HOW := Lib.hid (own7 (m := w.heap.size + 1) HX7.out.own (by have := HX7.out.base; omega) (.string tb) (.int .i64 tn) (.string fb) (.int .i64 fn) (.bool tm) (.bool fm) (.slice da D.length dc))
        have HBF := Lib.hid (set7_below (m := w.heap.size + 1) HX7.out.bel (by omega) (.string tb) (.int .i64 tn) (.string fb) (.int .i64 fn) (.bool tm) (.bool fm) (.slice da D.length dc))
        exact bodyPost_ret (v := .tuple #[.agg #[.string tb, .int .i64 tn, .string fb, .int .i64 fn, .bool tm, .bool fm, .slice da D.length dc], .bool false]) (by simp [results, Tryd.results27, go_sem, S7.k0.cell, S7.k1.cell, S7.k2.cell, S7.k3.cell, S7.k4.cell, S7.k5.cell, S7.k6.cell]) rfl ⟨⟨da, dc, (by rw [HED.out]), (by rw [HSD2.out]; exact ents_of_own HOW.out)⟩, HBF.out⟩
end Go.Proofs.YtikabflmgckdnaaDoor
namespace Go.Proofs.YtikabflmgckdnaaDoor
open Go.RowKit Go.Sort
set_option maxRecDepth 20000
set_option maxHeartbeats 2000000 in
theorem sent_own (tb fb : ByteArray) (tn fn : Int) (tm fm : Bool) (a : Option Addr) (cap : Nat) (D : List Ent) (w : World) (hD : D.length ≤ 900) (hE : EntsAt w a cap D) (ht : tb.size ≤ 140737488351232) (hf : fb.size ≤ 140737488351232) (hS : ∀ e ∈ D, e.1.size ≤ 140737488351232) :
    Calls Tryd.prog 27 #[.agg #[.string tb, .int .i64 tn, .string fb, .int .i64 fn, .bool tm, .bool fm, .slice a D.length cap]] w fun e w' => (∃ da dc, e = .returned (.tuple #[.agg #[.string tb, .int .i64 tn, .string fb, .int .i64 fn, .bool tm, .bool fm, .slice da D.length dc], .bool (decide (fstD D < D.length))]) ∧ OwnE 92 w' w.heap.size (.slice da D.length dc) (sentD D)) ∧ Below w.heap.size w w' := by
  have hb0 := (Below.refl _ w).alloc (Nat.le_refl _) (.cells #[.string tb, .int .i64 tn, .string fb, .int .i64 fn, .bool tm, .bool fm, .slice a D.length cap] 55)
  obtain ⟨W0, hW0⟩ : ∃ W0, W0 = (w.alloc (.cells #[.string tb, .int .i64 tn, .string fb, .int .i64 fn, .bool tm, .bool fm, .slice a D.length cap] 55)).alloc (.cells #[.string ⟨#[]⟩, .int .i64 0, .string ⟨#[]⟩, .int .i64 0, .bool false, .bool false, .slice none 0 0] 55) := ⟨_, rfl⟩
  have HB0 := Lib.hid (show Below w.heap.size w W0 from by rw [hW0]; exact hb0.alloc hb0.size _)
  have HP := Lib.hid (show P7 W0 w.heap.size _ _ _ _ _ _ _ from by rw [hW0]; exact (P7.new w _ rfl _ _ _ _ _ _ _ _).alloc _)
  have HR := Lib.hid (show P7 W0 (w.heap.size + 1) _ _ _ _ _ _ _ from by rw [hW0]; exact P7.new _ _ (by simp) _ _ _ _ _ _ _ _)
  have HZ := Lib.hid (show W0.heap.size = w.heap.size + 2 from by rw [hW0]; simp)
  have HAL := Lib.hid (fun W (h : Below w.heap.size w W) => all_any tb fb tn fn tm fm a cap D W (by omega) (hE.below h))
  obtain ⟨L, hL⟩ : ∃ L, L = (tb, tn, tm) :: (fb, fn, fm) :: D := ⟨_, rfl⟩
  have HOF := Lib.hid (show ∀ g c W, EntsAt W (some ⟨g, 0, none⟩) c L → Calls Tryd.prog 46 #[.slice (some ⟨g, 0, none⟩) L.length c] W fun e w' => ∃ v, e = .returned (.agg #[.string tb, .int .i64 tn, .string fb, .int .i64 fn, .bool tm, .bool fm, v]) ∧ OwnE 92 w' W.heap.size v D ∧ Below W.heap.size W w' from fun g c W h => by
    rw [show L.length = D.length + 2 from by rw [hL]; simp]
    exact of_any tb fb tn fn tm fm (some ⟨g, 0, none⟩) c D W (by omega) (hL ▸ h))
  have HFI := Lib.hid (fun da dc W (h : EntsAt W da dc D) => first_any da dc D W (by omega) h)
  have HAN := Lib.hid (show ∀ k (h : k < L.length) W, Calls Tryd.prog 37 #[.agg #[.string L[k].1, .int .i64 L[k].2.1]] W fun e w' => e = .returned (.agg #[.string L[k].1, .int .i64 L[k].2.1]) ∧ Below W.heap.size W w' from fun k h W => anew_any _ _ W (by
    have hm : L[k] ∈ ((tb, tn, tm) : Ent) :: (fb, fn, fm) :: D := hL ▸ List.getElem_mem h
    generalize L[k] = x at hm
    rcases List.mem_cons.1 hm with q | hm
    · rw [q]; exact ht
    · rcases List.mem_cons.1 hm with q | hm
      · rw [q]; exact hf
      · exact hS x hm))
  have HLL := Lib.hid (show L.length = D.length + 2 from by rw [hL]; simp)
  rw [← hL] at HAL
  have hLl : L.length ≤ 1000 := by have := HLL.out; omega
  have HAG := Lib.hid (fun (W : World) (B g c k : Nat) (hk : k < L.length) (h : OwnE 92 W B (.slice (some ⟨g, 0, none⟩) L.length c) L) => h.again k hk)
  have hle := fstD_le D
  have HSD := Lib.hid (show sentD D = markD D (fstD D) from rfl)
  generalize sentD D = S at *
  generalize fstD D = f at *
  have h2 : 2 ≤ L.length := by have := HLL.out; omega
  clear hE ht hf hS hb0 hL
  subst hW0
  go_enter Tryd.func27, Tryd.ntmps27
  obtain ⟨p0, q0, pl⟩ := HP.out.k0
  go_wp2_with (go_at_call 48; (with_reducible refine (HAL.out _ HB0.out).mono ?_); rintro e w1 ⟨v, rfl, hv, hb⟩; obtain ⟨g, c, rfl, hgb, -, hv'⟩ := hv.some_ (by omega); have HA := Lib.hid (show SentAt w w1 g c _ _ _ _ _ _ _ L from ⟨hv'.base (by have := HZ.out; simp at this ⊢), HP.out.below hb, HR.out.below hb, HB0.out.trans (hb.mono HB0.out.size)⟩); clear hb hv hv' hgb)
  clear HAL HB0 HP HR HZ p0 q0 pl
  go_loopw [12] (fun i wx => ∃ k : Nat, k ≤ L.length ∧ i = .int .i64 k ∧ Hid (SentAt w wx g c (.string tb) (.int .i64 tn) (.string fb) (.int .i64 fn) (.bool tm) (.bool fm) (.slice a D.length cap) L)) (fun i _ => L.length - (intOf i).toNat)
  case atStart => exact ⟨0, by omega, rfl, HA.out⟩
  case round =>
    obtain ⟨k, hk, rfl, HQ⟩ := hrel
    clear HA
    by_cases hlt : k < L.length
    · have dk : decide ((k : Int) < (L.length : Int)) = true := decide_eq_true (by omega)
      obtain ⟨g', o', hgo, hg, c0, c1, c2⟩ := (ents_of_own HQ.out.own).at_ k hlt
      simp only [Option.some.injEq, Addr.mk.injEq, and_true] at hgo
      obtain ⟨rfl, rfl⟩ := hgo
      rw [Nat.zero_add] at c0 c1 c2
      have HANK := Lib.hid (HAN.out k hlt)
      have HAGK := Lib.hid (fun W => HAG.out W (w.heap.size + 2) g c k hlt)
      generalize L[k] = d at *
      obtain ⟨db, dn, dm⟩ := d
      simp only at c0 c1 c2 HANK HAGK
      have HQ1 := Lib.hid (HQ.out.below ((Below.refl _ wr).alloc (Nat.le_refl _) (.cells #[.string db, .int .i64 dn, .bool dm] 92)))
      clear HQ
      go_wp2_with (go_at_call 37; (with_reducible refine (HANK.out _).mono ?_); rintro e w3 ⟨rfl, hb⟩; have HQ2 := Lib.hid (HQ1.out.below hb); have x0 := (hb.cell (p := ⟨g, k * 3, none⟩) (by simp; omega)).trans ((World.cell?_alloc_past _ _ _ hg).trans c0); have x1 := (hb.cell (p := ⟨g, k * 3 + 1, none⟩) (by simp; omega)).trans ((World.cell?_alloc_past _ _ _ hg).trans c1); have f0 := World.ownsRow.frozenAt HQ2.out.own (k * 3); have f1 := World.ownsRow.frozenAt HQ2.out.own (k * 3 + 1); clear hb)
      go_roundw
      case rel =>
        obtain ⟨h1, h2⟩ := HAGK.out _ HQ2.out.own
        exact ⟨k + 1, by omega, by go_num, HQ2.out.grown h1 h2⟩
      case measure => simp [intOf]; omega
    · obtain rfl : k = L.length := by omega
      have dk : decide ((L.length : Int) < (L.length : Int)) = false := decide_eq_false (by omega)
      obtain ⟨⟨p0, q0, pl⟩, ⟨p1, q1, -⟩, ⟨p2, q2, -⟩, ⟨p3, q3, -⟩, ⟨p4, q4, -⟩, ⟨p5, q5, -⟩, ⟨p6, q6, -⟩⟩ := HQ.out.box
      have HOFF := Lib.hid (HOF.out g c wr (ents_of_own HQ.out.own))
      clear HOF HAN HAG
      by_cases hlt : f < D.length
      · have ef : ((f : Int) == (D.length : Int)) = false := by rw [beq_eq_false_iff_ne]; omega
        have ed : decide (f < D.length) = true := decide_eq_true hlt
        have HED := Lib.hid ed
        clear ed
        go_wp2_with (first
          | (go_at_call 46; (with_reducible refine HOFF.out.mono ?_); rintro e w5 ⟨v, rfl, hv, hb⟩; obtain ⟨g2, c2, rfl, -, -, hv'⟩ := hv.some_ (by omega); have HX := Lib.hid (sent_put HQ.out hb hv'); have HQ5 := Lib.hid (HQ.out.below hb); clear hv hv' hb p0 q0 pl p1 q1 p2 q2 p3 q3 p4 q4 p5 q5 p6 q6; obtain ⟨⟨p0, q0, pl⟩, ⟨p1, q1, -⟩, ⟨p2, q2, -⟩, ⟨p3, q3, -⟩, ⟨p4, q4, -⟩, ⟨p5, q5, -⟩, ⟨p6, q6, -⟩⟩ := HQ5.out.box; have y6 := HX.out.box.k6.cell)
          | (go_at_call 47; (with_reducible refine (HFI.out (some ⟨g2, 0, none⟩) c2 _ (ents_of_own HX.out.own)).mono ?_); rintro e w6 ⟨rfl, hb⟩; have HX6 := Lib.hid (HX.out.below hb); clear hb; have y6' := HX6.out.box.k6.cell; have z2 := World.ownsRow.frozenAt HX6.out.own (f * 3 + 2); obtain ⟨gg, oo, hgo, hgl, -, -, z3⟩ := (ents_of_own HX6.out.own).at_ f hlt; simp only [Option.some.injEq, Addr.mk.injEq, and_true] at hgo; obtain ⟨rfl, rfl⟩ := hgo; rw [Nat.zero_add] at z3; have HX7 := Lib.hid (HX6.out.mark f hlt); obtain ⟨⟨t0, u0, tl⟩, ⟨t1, u1, -⟩, ⟨t2, u2, -⟩, ⟨t3, u3, -⟩, ⟨t4, u4, -⟩, ⟨t5, u5, -⟩, ⟨t6, u6, -⟩⟩ := HX7.out.box; obtain ⟨⟨r0, s0, rl⟩, ⟨r1, s1, -⟩, ⟨r2, s2, -⟩, ⟨r3, s3, -⟩, ⟨r4, s4, -⟩, ⟨r5, s5, -⟩, ⟨r6, s6, -⟩⟩ := HX7.out.res))
        have S7 := stored7 (m := w.heap.size + 1) (.string tb) (.int .i64 tn) (.string fb) (.int .i64 fn) (.bool tm) (.bool fm) (.slice (some ⟨g2, 0, none⟩) D.length c2) HX7.out.res
        have HOW := Lib.hid (own7 (m := w.heap.size + 1) HX7.out.own (by have := HX7.out.base; omega) (.string tb) (.int .i64 tn) (.string fb) (.int .i64 fn) (.bool tm) (.bool fm) (.slice (some ⟨g2, 0, none⟩) D.length c2))
        have HBF := Lib.hid (set7_below (m := w.heap.size + 1) HX7.out.bel (by omega) (.string tb) (.int .i64 tn) (.string fb) (.int .i64 fn) (.bool tm) (.bool fm) (.slice (some ⟨g2, 0, none⟩) D.length c2))
        exact bodyPost_ret (v := .tuple #[.agg #[.string tb, .int .i64 tn, .string fb, .int .i64 fn, .bool tm, .bool fm, .slice (some ⟨g2, 0, none⟩) D.length c2], .bool true]) (by simp [results, Tryd.results27, go_sem, S7.k0.cell, S7.k1.cell, S7.k2.cell, S7.k3.cell, S7.k4.cell, S7.k5.cell, S7.k6.cell]) rfl ⟨⟨some ⟨g2, 0, none⟩, c2, (by rw [HED.out]), (by rw [HSD.out]; exact HOW.out.base (by have := HX7.out.base; omega))⟩, HBF.out⟩
      · obtain rfl : f = D.length := by omega
        have ef : ((D.length : Int) == (D.length : Int)) = true := beq_self_eq_true _
        have ed : decide (D.length < D.length) = false := decide_eq_false (by omega)
        have HED := Lib.hid ed
        clear ed
        have HSD2 := Lib.hid (show S = D from by rw [HSD.out]; unfold markD; rw [List.getElem?_eq_none (Nat.le_refl _)])
        go_wp2_with (first
          | (go_at_call 46; (with_reducible refine HOFF.out.mono ?_); rintro e w5 ⟨v, rfl, hv, hb⟩; obtain ⟨da, dc, hvv, -⟩ := hv.ents; subst hvv; have HX := Lib.hid (sent_put HQ.out hb hv); have HQ5 := Lib.hid (HQ.out.below hb); clear hv hb p0 q0 pl p1 q1 p2 q2 p3 q3 p4 q4 p5 q5 p6 q6; obtain ⟨⟨p0, q0, pl⟩, ⟨p1, q1, -⟩, ⟨p2, q2, -⟩, ⟨p3, q3, -⟩, ⟨p4, q4, -⟩, ⟨p5, q5, -⟩, ⟨p6, q6, -⟩⟩ := HQ5.out.box; have y6 := HX.out.box.k6.cell)
          | (go_at_call 47; (with_reducible refine (HFI.out da dc _ (ents_of_own HX.out.own)).mono ?_); rintro e w6 ⟨rfl, hb⟩; have HX7 := Lib.hid (HX.out.below hb); clear hb; obtain ⟨⟨t0, u0, tl⟩, ⟨t1, u1, -⟩, ⟨t2, u2, -⟩, ⟨t3, u3, -⟩, ⟨t4, u4, -⟩, ⟨t5, u5, -⟩, ⟨t6, u6, -⟩⟩ := HX7.out.box; obtain ⟨⟨r0, s0, rl⟩, ⟨r1, s1, -⟩, ⟨r2, s2, -⟩, ⟨r3, s3, -⟩, ⟨r4, s4, -⟩, ⟨r5, s5, -⟩, ⟨r6, s6, -⟩⟩ := HX7.out.res))
        have S7 := stored7 (m := w.heap.size + 1) (.string tb) (.int .i64 tn) (.string fb) (.int .i64 fn) (.bool tm) (.bool fm) (.slice da D.length dc) HX7.out.res
        have HOW := Lib.hid (own7 (m := w.heap.size + 1) HX7.out.own (by have := HX7.out.base; omega) (.string tb) (.int .i64 tn) (.string fb) (.int .i64 fn) (.bool tm) (.bool fm) (.slice da D.length dc))
        have HBF := Lib.hid (set7_below (m := w.heap.size + 1) HX7.out.bel (by omega) (.string tb) (.int .i64 tn) (.string fb) (.int .i64 fn) (.bool tm) (.bool fm) (.slice da D.length dc))
        exact bodyPost_ret (v := .tuple #[.agg #[.string tb, .int .i64 tn, .string fb, .int .i64 fn, .bool tm, .bool fm, .slice da D.length dc], .bool false]) (by simp [results, Tryd.results27, go_sem, S7.k0.cell, S7.k1.cell, S7.k2.cell, S7.k3.cell, S7.k4.cell, S7.k5.cell, S7.k6.cell]) rfl ⟨⟨da, dc, (by rw [HED.out]), (by rw [HSD2.out]; exact HOW.out.base (by have := HX7.out.base; omega))⟩, HBF.out⟩
end Go.Proofs.YtikabflmgckdnaaDoor
