/-
The law's own reading of a path as the document has it; two paths compared by the document's own Same.
-/
import Derived.Test.YtplandmnmdkjmaaDoorPathBase
import Derived.BigQuiet
import Derived.Deep.QuietTactic
import Derived.Lib.SmallJoins
import Derived.Lib.ItoaNum
import Derived.BigRegion
import Derived.IntWalk
import Derived.Lib.QuietBelow
import Derived.Lib.IndexBytes
namespace Go.Proofs.YtplandmnmdkjmaaDoor
open Go.RowKit Go.Sort
set_option maxRecDepth 20000
/-- a path as a value -/
def pathV (x y : Ent) (dv : Value) : Value := .agg #[.string x.1, .int .i64 x.2.1, .string y.1, .int .i64 y.2.1, .bool x.2.2, .bool y.2.2, dv]
set_option maxHeartbeats 1000000 in
theorem plainP_any (tb fb : ByteArray) (tn fn : Int) (tm fm : Bool) (a : Option Addr) (cap : Nat) (D : List Ent) (w : World) (hD : D.length ≤ 1000) (hE : EntsAt w a cap D) :
    Calls Tryd.prog 21 #[.agg #[.string tb, .int .i64 tn, .string fb, .int .i64 fn, .bool tm, .bool fm, .slice a D.length cap]] w fun e w' => ∃ v, e = .returned (.agg #[v]) ∧ OwnE 90 w' w.heap.size v ((tb, tn, tm) :: (fb, fn, fm) :: D) ∧ Below w.heap.size w w' := by
  obtain ⟨W0, hW0⟩ : ∃ W0, W0 = ((w.alloc (.cells #[.string tb, .int .i64 tn, .string fb, .int .i64 fn, .bool tm, .bool fm, .slice a D.length cap] 26)).alloc (.cells #[.slice none 0 0] 35)) := ⟨_, rfl⟩
  have hb0 : Below w.heap.size w W0 := by rw [hW0]; exact ((Below.refl _ w).alloc (Nat.le_refl _) _).alloc (by simp) _
  have hs0 : W0.heap.size = w.heap.size + 1 + 1 := by rw [hW0]; simp
  have hk0 : KeepAt W0 (w.heap.size + 1) 0 (.slice none 0 0) := by
    have e : w.heap.size + 1 = (w.alloc (.cells #[.string tb, .int .i64 tn, .string fb, .int .i64 fn, .bool tm, .bool fm, .slice a D.length cap] 26)).heap.size := by simp
    rw [hW0, e]
    exact ⟨World.cell?_alloc_at _ _ _ _ rfl, World.frozen?_alloc_at _ _ _ _ rfl, by simp⟩
  obtain ⟨W1, hW1⟩ : ∃ W1, W1 = W0.alloc (.cells #[.string tb, .int .i64 tn, .bool tm, .string fb, .int .i64 fn, .bool fm] 90) := ⟨_, rfl⟩
  have hs1 : W1.heap.size = w.heap.size + 1 + 1 + 1 := by rw [hW1]; simp [hs0]
  have ho : OwnE 90 W1 (w.heap.size + 1 + 1) (.slice (some ⟨w.heap.size + 1 + 1, 0, none⟩) 2 2) [(tb, tn, tm), (fb, fn, fm)] := by rw [hW1]; exact OwnE.lit2 W0 _ _ hs0.symm (by omega) _ _ _ _ _ _ _
  have hk1 : KeepAt W1 (w.heap.size + 1) 0 (.slice none 0 0) := by rw [hW1]; exact hk0.alloc _
  have HO := Lib.hid (show OutAt w (W1.alloc (.cells #[.slice (some ⟨w.heap.size + 1 + 1, 0, none⟩) 2 2] 35)) (w.heap.size + 1 + 1) (w.heap.size + 1 + 1 + 1) 0 90 (.slice (some ⟨w.heap.size + 1 + 1, 0, none⟩) 2 2) ([(tb, tn, tm), (fb, fn, fm)] ++ D.take 0) from
    ⟨by rw [← hs1]; exact World.cell?_alloc_at _ _ _ _ rfl, by rw [← hs1]; exact World.frozen?_alloc_at _ _ _ _ rfl, by simpa using ho.alloc _, by simp [Value.ownBlock], by rw [hW1]; exact (hb0.alloc (by omega) _).alloc (by simp; omega) _, by omega, by omega, by simp [hs1], by simp [hs1]⟩)
  have HK := Lib.hid (hk1.alloc (.cells #[.slice (some ⟨w.heap.size + 1 + 1, 0, none⟩) 2 2] 35))
  have HE := Lib.hid hE
  clear ho hb0 hs0 hs1 hE hk0 hk1
  subst hW1
  subst hW0
  go_enter Tryd.func21, Tryd.ntmps21
  go_wp2
  go_loopw [21] (fun i wx => ∃ k : Nat, k ≤ D.length ∧ i = .int .i64 k ∧ ∃ tv, Hid (OutAt w wx (w.heap.size + 1 + 1) (w.heap.size + 1 + 1 + 1) 0 90 tv ([(tb, tn, tm), (fb, fn, fm)] ++ D.take k) ∧ KeepAt wx (w.heap.size + 1) 0 (.slice none 0 0))) (fun i _ => D.length - (intOf i).toNat)
  case atStart => exact ⟨0, by omega, rfl, _, HO.out, HK.out⟩
  case round =>
    obtain ⟨k, hk, rfl, tv, HR⟩ := hrel
    clear HO HK
    have HO := Lib.hid HR.out.1
    have HK := Lib.hid HR.out.2
    clear HR
    obtain ⟨ta, tn', tc, htv⟩ := HO.out.own.form
    by_cases hlt : k < D.length
    · have dk : decide ((k : Int) < (D.length : Int)) = true := decide_eq_true (by omega)
      obtain ⟨g, o, rfl, hg, c0, c1, c2⟩ := (HE.out.below HO.out.bel).at_ k hlt
      have hT : [(tb, tn, tm), (fb, fn, fm)] ++ D.take (k + 1) = ([(tb, tn, tm), (fb, fn, fm)] ++ D.take k) ++ [(D[k].1, D[k].2.1, D[k].2.2)] := by rw [List.take_succ_eq_append_getElem hlt, List.append_assoc]
      have hT2 := Lib.hid (show ([(tb, tn, tm), (fb, fn, fm)] ++ D.take k).length + 1 ≤ 100000 from by simp; omega)
      have hmc := HO.out.cell
      have hmf := HO.out.free
      have hml := HO.out.lt
      generalize D[k] = d at *
      obtain ⟨db, dn, dm⟩ := d
      simp only at c0 c1 c2 hT
      have HT := Lib.hid hT
      clear hT
      have O2 := Lib.hid ((HO.out.alloc (.cells #[.string db, .int .i64 dn, .bool dm] 86)).alloc (.cells #[.string db, .int .i64 dn, .bool dm] 90))
      have K2 := Lib.hid ((HK.out.alloc (.cells #[.string db, .int .i64 dn, .bool dm] 86)).alloc (.cells #[.string db, .int .i64 dn, .bool dm] 90))
      have N2 := Lib.hid (EntsAt.new1 (wr.alloc (.cells #[.string db, .int .i64 dn, .bool dm] 86)) (wr.heap.size + 1) (by simp) db dn dm 90)
      have HL := Lib.hid (fun W' v' => O2.out.grown (w1 := W') (v' := v') (L' := (([(tb, tn, tm), (fb, fn, fm)] ++ D.take k) ++ [(db, dn, dm)])))
      generalize hLL : ([(tb, tn, tm), (fb, fn, fm)] ++ D.take k) = LL at *
      subst htv
      clear HO HK
      go_wp2_with (at_builtin; refine wpList_append_ents infoE Tryd.underlying33 _ rfl (.tmp 26) (.tmp 32) rfl _ _ LL [(db, dn, dm)] rfl O2.out.own _ _ rfl N2.out hT2.out O2.out.bw ?_; intro v' w1 hown hgr hov; obtain ⟨⟨a', n', c', rfl⟩, hc1, hf1, hs1, hO1, hB1⟩ := HL.out w1 v' hown hgr hov; have hO1 := Lib.hid hO1; have hK1 := Lib.hid (K2.out.block (W' := w1) (hB1 _ (by omega)) hs1); clear hown hgr hov hB1)
      go_roundw
      case rel => exact ⟨k + 1, by omega, by go_num, _, by rw [HT.out]; exact hO1.out, hK1.out.other _ (by omega)⟩
      case measure => simp [intOf]; omega
    · obtain rfl : k = D.length := by omega
      have dk : decide ((D.length : Int) < (D.length : Int)) = false := decide_eq_false (by omega)
      rw [List.take_length] at HO
      have hmc := HO.out.cell
      have hmf := HO.out.free
      have hml := HO.out.lt
      have kc := HK.out.cell
      have kf := HK.out.free
      have kl := HK.out.lt
      subst htv
      have z0 := set_here (v := .slice ta tn' tc) kc
      have HX := Lib.hid (And.intro (HO.out.own.grown (grown_set (grown_refl wr (some (w.heap.size + 1))) (o := 0) (.slice ta tn' tc)) (fun g hv e => by have := (HO.out.own.ge hv).1; have := Option.some.inj e; omega)) (HO.out.bel.setCell (p := ⟨w.heap.size + 1, 0, none⟩) (by show w.heap.size ≤ w.heap.size + 1; omega) (.slice ta tn' tc)))
      go_wp2
      exact bodyPost_ret (v := .agg #[.slice ta tn' tc]) (by simp [results, Tryd.results21, go_sem, z0]) rfl ⟨_, rfl, HX.out.1.base (by omega), HX.out.2⟩
theorem below_drewN' {B : Nat} {a w : World} (h : Below B a w) (n : Nat) : Below B a (w.drewN n) := ⟨h.os, h.tape, h.output, h.size, h.block⟩
set_option maxHeartbeats 1000000 in
theorem sameP_yes (u v : Value) (L : List Ent) (w : World) (hL : L.length ≤ 1000) (hu : Ents w u L) (hv : Ents w v L) : Calls Tryd.prog 38 #[.agg #[u], .agg #[v]] w fun e w' => e = .returned (.bool true) ∧ Below w.heap.size w w' := by
  obtain ⟨a, c, rfl, ha⟩ := hu
  obtain ⟨b, d, rfl, hb⟩ := hv
  have HB0 := Lib.hid (((Below.refl _ w).alloc (Nat.le_refl _) (.cells #[.slice a L.length c] 35)).alloc (by simp) (.cells #[.slice b L.length d] 35))
  have HA := Lib.hid (ha.below HB0.out)
  have HB := Lib.hid (hb.below HB0.out)
  clear ha hb
  go_enter Tryd.func38, Tryd.ntmps38
  go_wp2
  go_loopw [5] (fun i wx => ∃ k : Nat, k ≤ L.length ∧ i = .int .i64 k ∧ ∃ n, wx = ((w.alloc (.cells #[.slice a L.length c] 35)).alloc (.cells #[.slice b L.length d] 35)).drewN n) (fun i _ => L.length - (intOf i).toNat)
  case atStart => exact ⟨0, by omega, rfl, 0, rfl⟩
  case round =>
    obtain ⟨k, hk, rfl, n, rfl⟩ := hrel
    by_cases hlt : k < L.length
    · obtain ⟨g1, o1, rfl, _, c0, c1, c2⟩ := HA.out.at_ k hlt
      obtain ⟨g2, o2, rfl, _, d0, d1, d2⟩ := HB.out.at_ k hlt
      have dk : decide ((k : Int) < (L.length : Int)) = true := decide_eq_true (by omega)
      generalize L[k] = x at *
      obtain ⟨xb, xn, xm⟩ := x
      simp only at c0 c1 c2 d0 d1 d2
      clear HA HB HB0
      go_wp2
      go_quiet (fail)
      go_wp2
      go_roundw
      case rel => exact ⟨k + 1, by omega, by go_num, n + nq, by simp⟩
      case measure => simp [intOf]; omega
    · obtain rfl : k = L.length := by omega
      have dk : decide ((L.length : Int) < (L.length : Int)) = false := decide_eq_false (by omega)
      go_wp2
      go_ret
      exact ⟨rfl, below_drewN' HB0.out n⟩
end Go.Proofs.YtplandmnmdkjmaaDoor
