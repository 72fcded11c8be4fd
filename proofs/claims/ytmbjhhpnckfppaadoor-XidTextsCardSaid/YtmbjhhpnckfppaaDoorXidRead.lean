/-
The landed code's read: the parameters whose words these are, if they are any's.
-/
import Derived.Test.YtmbjhhpnckfppaaDoorXidText
import Derived.Test.YtmbjhhpnckfppaaDoorCut
namespace Go.Proofs.YtmbjhhpnckfppaaDoor
open Go.RowKit Go.Sort
set_option maxRecDepth 20000
/-- how long a text is -/
def strX : Value → Nat
  | .string b => b.size
  | _ => 0
/-- parameters, right or not -/
structure XP where
  a : Bool
  b : Bool
  n : Int
  k : Int
  t : Int
  r : Int
def XP.zero : XP := ⟨false, false, 0, 0, 0, 0⟩
/-- what one word sets: by its name; its number -/
def setW (nm : List UInt8) (N : Int) (p : XP) : XP :=
  if (nm == [87, 73, 68, 69]) = true then { p with a := true } else if (nm == [83, 82, 69, 74]) = true then { p with b := true } else if (nm == [78, 49]) = true then { p with n := N } else if (nm == [75]) = true then { p with k := N } else if (nm == [84, 49]) = true then { p with t := N } else if (nm == [78, 50]) = true then { p with r := N } else p
/-- what words are read as, one by one; a number that is none is any -/
inductive ReadTo : List UInt8 → XP → XP → Prop
  | done (p : XP) : ReadTo [] p p
  | step (s : List UInt8) (p q : XP) (N : Int) (hs : s ≠ []) (hN : ∀ v, Lib.atoiAll (Lib.cut (Lib.cut s [32]).1 [61]).2.1 = .ok v → N = v) (h : ReadTo (Lib.cut s [32]).2.1 (setW (Lib.cut (Lib.cut s [32]).1 [61]).1 N p) q) : ReadTo s p q
theorem atoi_any (s : ByteArray) (w : World) (hV : VarsOk w) (h : s.size ≤ 300) : Calls Tryd.prog 23 #[.string s] w fun e w' => ∃ N i, e = .returned (.tuple #[.int .i64 N, i]) ∧ (∀ v, Lib.atoiAll s.data.toList = .ok v → N = v) ∧ Below w.heap.size w w' := by
  have h1 := fun (hn : ∀ v, Lib.atoiAll s.data.toList ≠ .ok v) (hr : Lib.atoiAll s.data.toList ≠ .range) => atoi_none s h hn hr
  cases hA : Lib.atoiAll s.data.toList
  · rename_i v
    refine (Tryd.strconv_Atoi_ok s (by omega) v hA w).mono fun e w' ⟨he, hw⟩ => ⟨v, .nilIface, he, (fun u hu => by cases hu; rfl), ?_⟩
    rcases hw with rfl | ⟨t, rfl⟩
    · exact Below.refl _ _
    · exact Lib.bytesWorld_below w _ t
  · obtain ⟨t, p, hv⟩ := hV.syn
    have hc : w.cell? ⟨1, 0, none⟩ = some (.iface t p) := by simpa using World.var?_cell g_syn hv 0
    exact (h1 (fun v e => by rw [hA] at e; cases e) (fun e => by rw [hA] at e; cases e) t p w hc).mono fun e w' ⟨u, q, he, hb⟩ => ⟨0, .iface u q, he, (fun v hv => by cases hv), hb⟩
  · obtain ⟨t, p, hv⟩ := hV.rng
    have hc : w.cell? ⟨2, 0, none⟩ = some (.iface t p) := by simpa using World.var?_cell g_rng hv 0
    exact (Tryd.strconv_Atoi_range s (by omega) hA (.iface t p) w hc (Or.inr ⟨t, p, rfl⟩)).mono fun e w' ⟨N, he, _, _, hb⟩ => ⟨Lib.atoiSat s.data.toList, _, he, (fun v hv => by cases hv), hb⟩
/-- what lies in memory while words are read -/
structure RdAt (w W : World) (p : XP) : Prop where
  z : C6 W w.heap.size (.bool false) (.bool false) (.int .i64 0) (.int .i64 0) (.int .i64 0) (.int .i64 0)
  p : C6 W (w.heap.size + 1) (.bool p.a) (.bool p.b) (.int .i64 p.n) (.int .i64 p.k) (.int .i64 p.t) (.int .i64 p.r)
  bel : Below w.heap.size w W
theorem RdAt.below {w W W' : World} {p : XP} (h : RdAt w W p) (hb : Below W.heap.size W W') : RdAt w W' p := ⟨h.z.below hb, h.p.below hb, h.bel.trans (hb.mono h.bel.size)⟩
theorem RdAt.new (w : World) (T : TypeId) : RdAt w ((w.alloc (.cells #[.bool false, .bool false, .int .i64 0, .int .i64 0, .int .i64 0, .int .i64 0] T)).alloc (.cells #[.bool false, .bool false, .int .i64 0, .int .i64 0, .int .i64 0, .int .i64 0] T)) XP.zero :=
  ⟨(C6.new w _ rfl _ _ _ _ _ _ _).alloc _, C6.new _ _ (by simp) _ _ _ _ _ _ _, ((Below.refl _ w).alloc (Nat.le_refl _) _).alloc (by simp) _⟩
set_option maxHeartbeats 1000000 in
theorem read_any (s : ByteArray) (w : World) (hV : VarsOk w) (hs : s.size ≤ 200) : Calls Tryd.prog 15 #[.string s] w fun e w' => ∃ p : XP, e = .returned (.agg #[.bool p.a, .bool p.b, .int .i64 p.n, .int .i64 p.k, .int .i64 p.t, .int .i64 p.r]) ∧ ReadTo s.data.toList XP.zero p ∧ Below w.heap.size w w' := by
  have HV := Lib.hid hV
  have HS := Lib.hid hs
  have HR0 := Lib.hid (RdAt.new w 23)
  clear hV hs
  go_enter Tryd.func15, Tryd.ntmps15
  go_wp2_with fail
  go_loopw [0] (fun v wx => ∃ (u : ByteArray) (p : XP), v = .string u ∧ Hid (u.size ≤ s.size) ∧ Hid (RdAt w wx p) ∧ Hid (∀ q, ReadTo u.data.toList p q → ReadTo s.data.toList XP.zero q)) (fun v _ => strX v)
  case atStart => exact ⟨s, XP.zero, rfl, Nat.le_refl _, HR0.out, fun q h => h⟩
  case round =>
    obtain ⟨u, p, rfl, HUS, HK, HTO⟩ := hrel
    clear HR0
    by_cases h0 : u.size = 0
    · obtain rfl : u = ⟨#[]⟩ := bytes_ext' (by
        have h : u.data.toList.length = u.size := by simp
        rw [h0] at h
        exact List.length_eq_zero_iff.1 h)
      have HT := Lib.hid (HTO.out p (ReadTo.done p))
      clear HTO HUS
      have HK2 := HK
      obtain ⟨⟨⟨z0, y0, -⟩, ⟨z1, y1, -⟩, ⟨z2, y2, -⟩, ⟨z3, y3, -⟩, ⟨z4, y4, -⟩, ⟨z5, y5, -⟩⟩, ⟨⟨c0, f0, cl⟩, ⟨c1, f1, -⟩, ⟨c2, f2, -⟩, ⟨c3, f3, -⟩, ⟨c4, f4, -⟩, ⟨c5, f5, -⟩⟩, -⟩ := HK2.out
      go_wp2_with fail
      have S6 := stored6 (.bool p.a) (.bool p.b) (.int .i64 p.n) (.int .i64 p.k) (.int .i64 p.t) (.int .i64 p.r) HK.out.z
      have HBF := Lib.hid (set6_below (m := w.heap.size) HK.out.bel (Nat.le_refl _) (.bool p.a) (.bool p.b) (.int .i64 p.n) (.int .i64 p.k) (.int .i64 p.t) (.int .i64 p.r))
      exact bodyPost_ret (v := .agg #[.bool p.a, .bool p.b, .int .i64 p.n, .int .i64 p.k, .int .i64 p.t, .int .i64 p.r]) (by simp [results, Tryd.results15, go_sem, S6.k0.cell, S6.k1.cell, S6.k2.cell, S6.k3.cell, S6.k4.cell, S6.k5.cell]) rfl ⟨p, rfl, HT.out, HBF.out⟩
    · obtain ⟨wd, rs, f1, hc1, -, hws, hf1, hg1⟩ := parted 32 u
      obtain ⟨nm, dg, f2, hc2, -, hns, hf2, hg2⟩ := parted 61 wd
      have hu2 : u.size ≤ 200 := by have := HUS.out; have := HS.out; omega
      have hrl : rs.size < u.size := by
        cases f1
        · rw [(hf1 rfl).2]; show 0 < _; omega
        · exact (hg1 rfl).2
      have hdl : dg.size ≤ 200 := by
        cases f2
        · rw [(hf2 rfl).2]; show 0 ≤ _; omega
        · have := (hg2 rfl).2; omega
      have HC1 := Lib.hid (fun W (hb : Below w.heap.size w W) => cut_sep 32 u w HV.out (by omega) wd rs f1 hc1 W hb)
      have HC2 := Lib.hid (fun W (hb : Below w.heap.size w W) => cut_sep 61 wd w HV.out (by omega) nm dg f2 hc2 W hb)
      have HAT := Lib.hid (fun W (hb : Below w.heap.size w W) => atoi_any dg W (HV.out.below hb) (by omega))
      have hne := text_some u (by omega)
      have HNX := Lib.hid (show ∀ N, (∀ v, Lib.atoiAll dg.data.toList = .ok v → N = v) → ∀ q, ReadTo rs.data.toList (setW nm.toList N p) q → ReadTo s.data.toList XP.zero q from fun N hN q h => HTO.out q (ReadTo.step _ p q N (fun e => h0 (by have : u.data.toList.length = u.size := (by simp); rw [e] at this; exact this.symm)) (by rw [hc1]; dsimp only; rw [hc2]; exact hN) (by rw [hc1]; dsimp only; rw [hc2]; rw [ByteArray.toList_eq] at h; exact h)))
      have HRL := Lib.hid hrl
      have HUR := Lib.hid (show rs.size ≤ s.size from by have := HUS.out; omega)
      clear h0 hc1 hws hf1 hg1 hc2 hns hf2 hg2 hu2 hrl hdl HTO HUS
      go_upto_region 5 with (go_at_call 22; (with_reducible refine (HC1.out _ HK.out.bel).mono ?_); rintro e w1 ⟨rfl, hb⟩; have HK1 := Lib.hid (HK.out.below hb); clear hb HK)
      go_upto_region 6 with (go_at_call 22; (with_reducible refine (HC2.out _ HK1.out.bel).mono ?_); rintro e w2 ⟨rfl, hb⟩; have HK2 := Lib.hid (HK1.out.below hb); clear hb HK1)
      go_wp2_with fail
      go_at_call 23
      refine (HAT.out _ HK2.out.bel).mono ?_
      rintro e w3 ⟨N, i, rfl, hN, hb⟩
      have HK3 := Lib.hid (HK2.out.below hb)
      have HQ := Lib.hid (HNX.out N hN)
      clear hb hN HK2 HC1 HC2 HAT HNX
      have HKP := fun X (h : setW nm.toList N p = X) (W : World) (hw : RdAt w W X) => show RdAt w W (setW nm.toList N p) from by rw [h]; exact hw
      have HKE := Lib.hid HKP
      clear HKP
      obtain ⟨-, ⟨⟨c0, f0, cl⟩, ⟨c1, f1', -⟩, ⟨c2, f2', -⟩, ⟨c3, f3, -⟩, ⟨c4, f4, -⟩, ⟨c5, f5, -⟩⟩, -⟩ := HK3.out
      by_cases g0 : (nm.toList == [87, 73, 68, 69]) = true
      · have e0 := g0
        have hset : setW nm.toList N p = { p with a := true } := by simp only [setW, e0, if_true]
        go_wp2_with fail
        go_roundw
        case rel => exact ⟨rs, setW nm.toList N p, rfl, HUR, Lib.hid (HKE.out _ hset _ ⟨HK3.out.z.other _ (by omega), HK3.out.p.put0 _, HK3.out.bel.setCell (p := ⟨w.heap.size + 1, 0, none⟩) (by show w.heap.size ≤ w.heap.size + 1; omega) _⟩), HQ⟩
        case measure => exact HRL.out
      have e0 : (nm.toList == [87, 73, 68, 69]) = false := Bool.eq_false_iff.2 g0
      clear g0
      by_cases g1 : (nm.toList == [83, 82, 69, 74]) = true
      · have e1 := g1
        have hset : setW nm.toList N p = { p with b := true } := by simp only [setW, e0, e1, if_true, Bool.false_eq_true, if_false]
        go_wp2_with fail
        go_roundw
        case rel => exact ⟨rs, setW nm.toList N p, rfl, HUR, Lib.hid (HKE.out _ hset _ ⟨HK3.out.z.other _ (by omega), HK3.out.p.put1 _, HK3.out.bel.setCell (p := ⟨w.heap.size + 1, 1, none⟩) (by show w.heap.size ≤ w.heap.size + 1; omega) _⟩), HQ⟩
        case measure => exact HRL.out
      have e1 : (nm.toList == [83, 82, 69, 74]) = false := Bool.eq_false_iff.2 g1
      clear g1
      by_cases g2 : (nm.toList == [78, 49]) = true
      · have e2 := g2
        have hset : setW nm.toList N p = { p with n := N } := by simp only [setW, e0, e1, e2, if_true, Bool.false_eq_true, if_false]
        go_wp2_with fail
        go_roundw
        case rel => exact ⟨rs, setW nm.toList N p, rfl, HUR, Lib.hid (HKE.out _ hset _ ⟨HK3.out.z.other _ (by omega), HK3.out.p.put2 _, HK3.out.bel.setCell (p := ⟨w.heap.size + 1, 2, none⟩) (by show w.heap.size ≤ w.heap.size + 1; omega) _⟩), HQ⟩
        case measure => exact HRL.out
      have e2 : (nm.toList == [78, 49]) = false := Bool.eq_false_iff.2 g2
      clear g2
      by_cases g3 : (nm.toList == [75]) = true
      · have e3 := g3
        have hset : setW nm.toList N p = { p with k := N } := by simp only [setW, e0, e1, e2, e3, if_true, Bool.false_eq_true, if_false]
        go_wp2_with fail
        go_roundw
        case rel => exact ⟨rs, setW nm.toList N p, rfl, HUR, Lib.hid (HKE.out _ hset _ ⟨HK3.out.z.other _ (by omega), HK3.out.p.put3 _, HK3.out.bel.setCell (p := ⟨w.heap.size + 1, 3, none⟩) (by show w.heap.size ≤ w.heap.size + 1; omega) _⟩), HQ⟩
        case measure => exact HRL.out
      have e3 : (nm.toList == [75]) = false := Bool.eq_false_iff.2 g3
      clear g3
      by_cases g4 : (nm.toList == [84, 49]) = true
      · have e4 := g4
        have hset : setW nm.toList N p = { p with t := N } := by simp only [setW, e0, e1, e2, e3, e4, if_true, Bool.false_eq_true, if_false]
        go_wp2_with fail
        go_roundw
        case rel => exact ⟨rs, setW nm.toList N p, rfl, HUR, Lib.hid (HKE.out _ hset _ ⟨HK3.out.z.other _ (by omega), HK3.out.p.put4 _, HK3.out.bel.setCell (p := ⟨w.heap.size + 1, 4, none⟩) (by show w.heap.size ≤ w.heap.size + 1; omega) _⟩), HQ⟩
        case measure => exact HRL.out
      have e4 : (nm.toList == [84, 49]) = false := Bool.eq_false_iff.2 g4
      clear g4
      by_cases g5 : (nm.toList == [78, 50]) = true
      · have e5 := g5
        have hset : setW nm.toList N p = { p with r := N } := by simp only [setW, e0, e1, e2, e3, e4, e5, if_true, Bool.false_eq_true, if_false]
        go_wp2_with fail
        go_roundw
        case rel => exact ⟨rs, setW nm.toList N p, rfl, HUR, Lib.hid (HKE.out _ hset _ ⟨HK3.out.z.other _ (by omega), HK3.out.p.put5 _, HK3.out.bel.setCell (p := ⟨w.heap.size + 1, 5, none⟩) (by show w.heap.size ≤ w.heap.size + 1; omega) _⟩), HQ⟩
        case measure => exact HRL.out
      have e5 : (nm.toList == [78, 50]) = false := Bool.eq_false_iff.2 g5
      clear g5
      have hset : setW nm.toList N p = p := by simp only [setW, e0, e1, e2, e3, e4, e5, Bool.false_eq_true, if_false]
      go_wp2_with fail
      go_roundw
      case rel => exact ⟨rs, setW nm.toList N p, rfl, HUR, Lib.hid (HKE.out _ hset _ HK3.out), HQ⟩
      case measure => exact HRL.out
end Go.Proofs.YtmbjhhpnckfppaaDoor
