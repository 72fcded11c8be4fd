/-
Slices of ints.
The landed list's All and Find.
The landed code's all.
The landed code's anew, ahead, Command and Response.
-/
import Derived.Test.YtmgfpnemamedoaaDoorMix00
import Derived.Test.YtmgfpnemamedoaaDoorMix06
import Derived.Deep.RegionHeld
import Derived.Deep.DeepCutAuto
import Derived.Test.YtmgfpnemamedoaaDoorMix01
import Derived.Test.YtmgfpnemamedoaaDoorMix05
import Derived.Lib.SmallJoins
import Derived.Lib.ItoaNum
import Derived.Lib.QuietBelow
import Derived.Lib.IndexBytes
import Derived.IntWalk
import Derived.Test.YtmgfpnemamedoaaDoorMix03
import Derived.OrdersHeld
namespace Go.Proofs.YtmgfpnemamedoaaDoor
set_option maxRecDepth 20000
open Go.RowKit
/-- one of them -/
theorem int_at {w : World} {g o : Nat} {L : List Int} (h : AtL encI w (some ⟨g, o, none⟩) L) (k : Nat) (hk : k < L.length) : w.cell? ⟨g, o + k, none⟩ = some (.int .i64 L[k]) := by
  have := h.get k hk 0 (u := .int .i64 L[k]) rfl
  simpa [encI] using this
theorem infoI : (Tryd.prog.info? 3).map (fun i => (i.zero, i.size, i.bytes)) = some (some (.int .i64 0), 1, 8) := by kernel_rfl
/-- a list of an own slice, one longer -/
theorem OwnL.form' {α : Type} {E : Enc α} {T : TypeId} {w : World} {B : Nat} {v : Value} {L : List α} (h : OwnL E T w B v L) : ∃ a n c, v = .slice a n c := by
  rcases h.2 with ⟨h0, _⟩ | ⟨g', cap, cur, h0, _⟩
  · exact ⟨_, _, _, h0⟩
  · exact ⟨_, _, _, h0⟩
end Go.Proofs.YtmgfpnemamedoaaDoor
namespace Go.Proofs.YtmgfpnemamedoaaDoor
open Go.RowKit Go.Sort
set_option maxRecDepth 20000
theorem infoH : (Tryd.prog.info? 42).map (fun i => (i.zero, i.size, i.bytes)) = some (some (.agg #[.string ⟨#[]⟩, .int .i64 0, .string ⟨#[]⟩, .int .i64 0, .int .i64 0, .int .i64 0]), 6, 64) := by kernel_rfl
set_option maxHeartbeats 1000000 in
theorem call23 (w : World) (p : Nat) (sv : Value) (L : List Hs) (h : HdAt w p sv L) : Calls Tryd.prog 10 #[ptrH p] w fun e w' => (∃ v, e = .returned v ∧ OwnL encH 42 w' w.heap.size v L) ∧ Below w.heap.size w w' := by
  obtain ⟨ad, cap, rfl, hA⟩ := h.own.see
  have c0 := h.row.cell 0 rfl
  have HA := Lib.hid hA
  have H8 := Lib.hid h.len
  have HSM := Lib.hid h.small
  have HFR := Lib.hid (fun cb vb cn vn k t W h1 h2 => cfresh23 cb vb cn vn k t W h1 h2)
  have HT0 := Lib.hid (show OwnL encH 42 w w.heap.size (.slice none 0 0) (L.take 0) ∧ Below w.heap.size w w from ⟨OwnL.nil _ _ _ _, Below.refl _ _⟩)
  clear h hA
  go_enter Tryd.func10, Tryd.ntmps10
  go_wp2_with fail
  go_loopw [3, 13] (fun tv iv wx => ∃ k : Nat, k ≤ L.length ∧ iv = .int .i64 k ∧ Hid (OwnL encH 42 wx w.heap.size tv (L.take k) ∧ Below w.heap.size w wx)) (fun _ iv _ => L.length - (intOf iv).toNat)
  case atStart => exact ⟨0, Nat.zero_le _, rfl, HT0⟩
  case round =>
    obtain ⟨k, hk, rfl, HQ⟩ := hrel
    clear HT0 c0
    by_cases hlt : k < L.length
    · have dk : decide ((k : Int) < (L.length : Int)) = true := decide_eq_true (by omega)
      obtain ⟨g, o, rfl, hg⟩ := HA.out.some_ (by omega)
      have hat := HA.out.below HQ.out.2
      have c0 := hat.get k hlt 0 rfl
      have c1 := hat.get k hlt 1 rfl
      have c2 := hat.get k hlt 2 rfl
      have c3 := hat.get k hlt 3 rfl
      have c4 := hat.get k hlt 4 rfl
      have c5 := hat.get k hlt 5 rfl
      simp only [show encH.n = 6 from rfl, Nat.add_zero] at c0 c1 c2 c3 c4 c5
      have hs := HSM.out _ (List.getElem_mem hlt)
      have HN := Lib.hid (List.take_succ_eq_append_getElem hlt)
      have HTK := Lib.hid (show (L.take k).length = k by rw [List.length_take]; omega)
      generalize L[k] = x at *
      obtain ⟨xb, xn, yb, yn, xc, xt⟩ := x
      simp only at c0 c1 c2 c3 c4 c5 hs
      have HFX := Lib.hid (fun W => HFR.out xb yb xn yn xc xt W hs.1 hs.2)
      generalize L.take k = M at *
      obtain ⟨ta, tl, tc, rfl⟩ := OwnL.form' HQ.out.1
      have HB0 := Lib.hid (HQ.out.2.alloc HQ.out.2.size (.cells #[.string xb, .int .i64 xn, .string yb, .int .i64 yn, .int .i64 xc, .int .i64 xt] 42))
      have HO0 := Lib.hid (HQ.out.1.alloc (.cells #[.string xb, .int .i64 xn, .string yb, .int .i64 yn, .int .i64 xc, .int .i64 xt] 42))
      have HZI := Lib.hid (show wrap64 ((k : Int) + 1) = (k : Int) + 1 from IntWalk.wrap64_in _ (by have := H8.out; omega))
      clear hat hs HQ
      go_wp2_with (first
        | (go_at_call 24; (with_reducible refine (HFX.out _).mono ?_); rintro e w1 ⟨rfl, hb⟩; have hb1 := HB0.out.trans (hb.mono HB0.out.size); have HB1 := Lib.hid (hb1.alloc hb1.size (.cells #[.string xb, .int .i64 xn, .string yb, .int .i64 yn, .int .i64 xc, .int .i64 xt] 42)); have HO1 := Lib.hid ((HO0.out.below hb).alloc (.cells #[.string xb, .int .i64 xn, .string yb, .int .i64 yn, .int .i64 xc, .int .i64 xt] 42)); have HM := Lib.hid (AtL.made encH 42 w1 w1.heap.size ⟨xb, xn, yb, yn, xc, xt⟩ [.string xb, .int .i64 xn, .string yb, .int .i64 yn, .int .i64 xc, .int .i64 xt] rfl rfl); clear hb hb1)
        | (at_builtin; refine wpList_append_one encH 42 43 Tryd.underlying43 infoH rfl (by decide) _ rfl (.tmp 17) (.tmp 20) rfl w.heap.size (.slice ta tl tc) M rfl HO1.out w1.heap.size 1 rfl ⟨xb, xn, yb, yn, xc, xt⟩ HM.out (by have := H8.out; have := HTK.out; omega) HB1.out.size ?_; intro v2 w3 hown hgr hwh; have HQ3 := Lib.hid (And.intro hown (HO1.out.appended HB1.out (Nat.le_refl _) HB1.out.size hgr)); clear hown hgr hwh))
      go_roundw
      case rel => exact ⟨k + 1, by omega, by rw [HZI.out]; rfl, HN.out ▸ HQ3⟩
      case measure =>
        rw [HZI.out]
        simp [intOf]
        omega
    · have e : L.take k = L := List.take_of_length_le (by omega)
      have dk : decide ((k : Int) < (L.length : Int)) = false := decide_eq_false (by omega)
      rw [e] at HQ
      clear e
      go_wp2_with fail
      exact bodyPost_ret (by simp [results, Tryd.results10, go_sem]) rfl ⟨⟨_, rfl, HQ.out.1⟩, HQ.out.2⟩
/-- what Find answers -/
def gotH (L : List Hs) (c : ByteArray × Int) : Hs := (L[whereH L c]?).getD hs0
theorem got_some (L : List Hs) (c : ByteArray × Int) (h : whereH L c < L.length) : gotH L c = L[whereH L c] ∧ foundH L c = (whereH L c : Nat) := by
  unfold gotH foundH
  rw [List.getElem?_eq_getElem h, if_pos h]
  exact ⟨rfl, rfl⟩
theorem got_none (L : List Hs) (c : ByteArray × Int) (h : ¬ whereH L c < L.length) : gotH L c = hs0 ∧ foundH L c = -1 := by
  unfold gotH foundH
  rw [List.getElem?_eq_none (by omega), if_neg h]
  exact ⟨rfl, rfl⟩
set_option maxHeartbeats 1000000 in
theorem cfind23 (w : World) (p : Nat) (sv : Value) (L : List Hs) (cb : ByteArray) (cn : Int) (h : HdAt w p sv L) : Calls Tryd.prog 11 #[ptrH p, .agg #[.string cb, .int .i64 cn]] w fun e w' => e = .returned (.tuple #[.agg (hsL (gotH L (cb, cn))).toArray, .bool (!decide (foundH L (cb, cn) < 0))]) ∧ Below w.heap.size w w' := by
  have HB0 := Lib.hid (((Below.refl w.heap.size w).alloc (Nat.le_refl _) (.cells #[.string cb, .int .i64 cn] 27)).alloc (by simp) (.cells #[.string ⟨#[]⟩, .int .i64 0, .string ⟨#[]⟩, .int .i64 0, .int .i64 0, .int .i64 0] 42))
  have HZ0 := Lib.hid (RowAt.new (w.alloc (.cells #[.string cb, .int .i64 cn] 27)) (w.heap.size + 1) (by simp) [.string ⟨#[]⟩, .int .i64 0, .string ⟨#[]⟩, .int .i64 0, .int .i64 0, .int .i64 0] 42)
  have hh := (h.below (((Below.refl w.heap.size w).alloc (Nat.le_refl _) (.cells #[.string cb, .int .i64 cn] 27)).alloc (by simp) (.cells #[.string ⟨#[]⟩, .int .i64 0, .string ⟨#[]⟩, .int .i64 0, .int .i64 0, .int .i64 0] 42)))
  have HIS := Lib.hid (fun W => cis23 (cb, cn) W)
  have HWH := Lib.hid (fun b W (hW : HdAt W p sv L) hr => cwhere23 b (cb, cn) p sv L W hW hr)
  have HH0 := Lib.hid hh
  clear hh
  by_cases hi : whereH L (cb, cn) < L.length
  · obtain ⟨h1, h2⟩ := got_some L (cb, cn) hi
    rw [h1, h2]
    rw [h2] at HWH
    have hsm := h.small _ (List.getElem_mem hi)
    obtain ⟨ad, cap, rfl, hA0⟩ := h.own.see
    have HAT := Lib.hid (fun (W : World) (hW : HdAt W p (.slice ad L.length cap) L) => show AtL encH W ad L from by
      obtain ⟨a', c', e, h'⟩ := hW.own.see
      cases e
      exact h')
    obtain ⟨g, o, rfl, -⟩ := hA0.some_ (by omega)
    have HGX := Lib.hid (fun (W : World) (hW : HdAt W p (.slice (some ⟨g, o, none⟩) L.length cap) L) (j : Nat) (u : Value) (hu : (encH.enc L[whereH L (cb, cn)])[j]? = some u) => (HAT.out W hW).get (whereH L (cb, cn)) hi j hu)
    have hl := h.len
    clear h1 h2 h hA0 HAT
    generalize whereH L (cb, cn) = i at *
    generalize L[i] = x at *
    obtain ⟨xb, xn, yb, yn, xc, xt⟩ := x
    have HFX := Lib.hid (fun W => cfresh23 xb yb xn yn xc xt W hsm.1 hsm.2)
    have d0 : decide ((i : Int) < 0) = false := decide_eq_false (by omega)
    rw [d0]
    clear hsm
    obtain ⟨n, hn⟩ : ∃ n, n = L.length := ⟨_, rfl⟩
    rw [← hn] at hi HWH HH0 HGX hl
    clear hn
    go_enter Tryd.func11, Tryd.ntmps11
    go_wp2_with (first
      | (go_at_call 23; (with_reducible refine (HIS.out _).mono ?_); rintro e w1 ⟨⟨b, rfl, hge, hr⟩, hb⟩; have HB1 := Lib.hid (HB0.out.trans (hb.mono HB0.out.size)); have HH1 := Lib.hid (HH0.out.below hb); have HZ1 := Lib.hid (HZ0.out.below hb); have HR1 := Lib.hid hr; clear hb hge hr)
      | (go_at_call 22; (with_reducible refine (HWH.out b _ HH1.out HR1.out).mono ?_); rintro e w2 ⟨rfl, hb⟩; have HB2 := Lib.hid (HB1.out.trans (hb.mono HB1.out.size)); have HH2 := Lib.hid (HH1.out.below hb); have HZ2 := Lib.hid (HZ1.out.below hb); clear hb; have s0 := HH2.out.row.cell 0 rfl; have x0 := HGX.out _ HH2.out 0 _ rfl; have x1 := HGX.out _ HH2.out 1 _ rfl; have x2 := HGX.out _ HH2.out 2 _ rfl; have x3 := HGX.out _ HH2.out 3 _ rfl; have x4 := HGX.out _ HH2.out 4 _ rfl; have x5 := HGX.out _ HH2.out 5 _ rfl; simp only [show encH.n = 6 from rfl, Nat.add_zero] at x0 x1 x2 x3 x4 x5)
      | (go_at_call 24; (with_reducible refine (HFX.out _).mono ?_); rintro e w3 ⟨rfl, hb⟩; have HB3 := Lib.hid (HB2.out.trans (hb.mono HB2.out.size)); have HZ3 := Lib.hid (HZ2.out.below hb); clear hb s0 x0 x1 x2 x3 x4 x5; obtain ⟨z0, g0, l0⟩ := HZ3.out.get 0 rfl; obtain ⟨z1, g1, -⟩ := HZ3.out.get 1 rfl; obtain ⟨z2, g2, -⟩ := HZ3.out.get 2 rfl; obtain ⟨z3, g3, -⟩ := HZ3.out.get 3 rfl; obtain ⟨z4, g4, -⟩ := HZ3.out.get 4 rfl; obtain ⟨z5, g5, -⟩ := HZ3.out.get 5 rfl))
    have S6 := HZ3.out.set6 (.string xb) (.int .i64 xn) (.string yb) (.int .i64 yn) (.int .i64 xc) (.int .i64 xt)
    exact bodyPost_ret (v := .tuple #[.agg #[.string xb, .int .i64 xn, .string yb, .int .i64 yn, .int .i64 xc, .int .i64 xt], .bool true]) (by simp [results, Tryd.results11, go_sem, S6.cell 0 rfl, S6.cell 1 rfl, S6.cell 2 rfl, S6.cell 3 rfl, S6.cell 4 rfl, S6.cell 5 rfl]) rfl ⟨rfl, set6_below HB3.out (by omega) _ _ _ _ _ _⟩
  · obtain ⟨h1, h2⟩ := got_none L (cb, cn) hi
    rw [h1, h2]
    rw [h2] at HWH
    clear h1 h2 h hi
    go_enter Tryd.func11, Tryd.ntmps11
    go_wp2_with (first
      | (go_at_call 23; (with_reducible refine (HIS.out _).mono ?_); rintro e w1 ⟨⟨b, rfl, hge, hr⟩, hb⟩; have HB1 := Lib.hid (HB0.out.trans (hb.mono HB0.out.size)); have HH1 := Lib.hid (HH0.out.below hb); have HZ1 := Lib.hid (HZ0.out.below hb); have HR1 := Lib.hid hr; clear hb hge hr)
      | (go_at_call 22; (with_reducible refine (HWH.out b _ HH1.out HR1.out).mono ?_); rintro e w2 ⟨rfl, hb⟩; have HB2 := Lib.hid (HB1.out.trans (hb.mono HB1.out.size)); have HZ2 := Lib.hid (HZ1.out.below hb); clear hb; obtain ⟨z0, g0, l0⟩ := HZ2.out.get 0 rfl; obtain ⟨z1, g1, -⟩ := HZ2.out.get 1 rfl; obtain ⟨z2, g2, -⟩ := HZ2.out.get 2 rfl; obtain ⟨z3, g3, -⟩ := HZ2.out.get 3 rfl; obtain ⟨z4, g4, -⟩ := HZ2.out.get 4 rfl; obtain ⟨z5, g5, -⟩ := HZ2.out.get 5 rfl))
    have S6 := HZ2.out.set6 (.string ⟨#[]⟩) (.int .i64 0) (.string ⟨#[]⟩) (.int .i64 0) (.int .i64 0) (.int .i64 0)
    exact bodyPost_ret (v := .tuple #[.agg #[.string ⟨#[]⟩, .int .i64 0, .string ⟨#[]⟩, .int .i64 0, .int .i64 0, .int .i64 0], .bool false]) (by simp [results, Tryd.results11, go_sem, S6.cell 0 rfl, S6.cell 1 rfl, S6.cell 2 rfl, S6.cell 3 rfl, S6.cell 4 rfl, S6.cell 5 rfl]) rfl ⟨rfl, set6_below HB2.out (by omega) _ _ _ _ _ _⟩
end Go.Proofs.YtmgfpnemamedoaaDoor
namespace Go.Proofs.YtmgfpnemamedoaaDoor
open Go.RowKit Go.Sort
set_option maxRecDepth 20000
set_option maxHeartbeats 1000000 in
theorem all_any (tb fb : ByteArray) (tn fn : Int) (tm fm : Bool) (a : Option Addr) (cap : Nat) (D : List Ent) (w : World) (hD : D.length ≤ 1000) (hE : EntsAt w a cap D) :
    Calls Tryd.prog 27 #[.agg #[.string tb, .int .i64 tn, .string fb, .int .i64 fn, .bool tm, .bool fm, .slice a D.length cap]] w fun e w' => ∃ v, e = .returned v ∧ OwnE 55 w' w.heap.size v ((tb, tn, tm) :: (fb, fn, fm) :: D) ∧ Below w.heap.size w w' := by
  have hb0 : Below w.heap.size w (w.alloc (.cells #[.string tb, .int .i64 tn, .string fb, .int .i64 fn, .bool tm, .bool fm, .slice a D.length cap] 30)) := (Below.refl _ w).alloc (Nat.le_refl _) _
  have HO := Lib.hid (OwnE.lit2 (w.alloc (.cells #[.string tb, .int .i64 tn, .string fb, .int .i64 fn, .bool tm, .bool fm, .slice a D.length cap] 30)) (w.heap.size + 1) w.heap.size (by simp) (by omega) tb fb tn fn tm fm 55)
  have HB0 := Lib.hid (hb0.alloc hb0.size (.cells #[.string tb, .int .i64 tn, .bool tm, .string fb, .int .i64 fn, .bool fm] 55))
  have HE := Lib.hid (hE.below HB0.out)
  have HL := Lib.hid (show [(tb, tn, tm), (fb, fn, fm)].length + D.length ≤ 100000 from by simp; omega)
  clear hE hb0
  go_enter Tryd.func27, Tryd.ntmps27
  go_wp2_with (at_builtin; refine wpList_append_ents infoD Tryd.underlying28 _ rfl (.tmp 13) (.tmp 15) rfl _ _ [(tb, tn, tm), (fb, fn, fm)] D rfl HO.out _ _ rfl HE.out HL.out HB0.out.size ?_; intro v' w1 hown hgr hov; have HX := Lib.hid (And.intro hown (HB0.out.grown hgr HB0.out.size (fun k hk => (HO.out.ge hk).1))); clear hown hgr hov)
  go_ret
  exact ⟨v', rfl, HX.out.1, HX.out.2⟩
theorem right_cons (x y : Ent) (D : List Ent) : rightP (x :: y :: D) = (decide (D.length ≤ 8) && ordD D && ((x :: y :: D).all fun e => rightD e.1 e.2.1)) := by
  unfold rightP
  generalize (List.all (x :: y :: D) fun e => rightD e.1 e.2.1) = A
  have h1 : decide (2 ≤ (x :: y :: D).length) = true := decide_eq_true (by simp)
  have h2 : decide ((x :: y :: D).length ≤ 10) = decide (D.length ≤ 8) := decide_eq_decide.2 (by simp)
  rw [h1, h2]
  show (A && true && _ && ordD D) = _
  cases A <;> simp
set_option maxHeartbeats 1000000 in
theorem pright_any (tb fb : ByteArray) (tn fn : Int) (tm fm : Bool) (a : Option Addr) (cap : Nat) (D : List Ent) (w : World) (hD : D.length ≤ 1000) (hE : EntsAt w a cap D) :
    Calls Tryd.prog 15 #[.agg #[.string tb, .int .i64 tn, .string fb, .int .i64 fn, .bool tm, .bool fm, .slice a D.length cap]] w fun e w' => e = .returned (.bool (rightP ((tb, tn, tm) :: (fb, fn, fm) :: D))) ∧ Below w.heap.size w w' := by
  rw [right_cons]
  obtain ⟨W0, hW0⟩ : ∃ W0, W0 = (w.alloc (.cells #[.string tb, .int .i64 tn, .string fb, .int .i64 fn, .bool tm, .bool fm, .slice a D.length cap] 30)) := ⟨_, rfl⟩
  have hb0 : Below w.heap.size w W0 := by rw [hW0]; exact (Below.refl _ w).alloc (Nat.le_refl _) _
  have HK := Lib.hid (show P7 W0 w.heap.size _ _ _ _ _ _ _ from hW0 ▸ P7.new w w.heap.size rfl (.string tb) (.int .i64 tn) (.string fb) (.int .i64 fn) (.bool tm) (.bool fm) (.slice a D.length cap) 30)
  have HB0 := Lib.hid hb0
  have HIN := Lib.hid (fun W (h : Below w.heap.size w W) => inOrder_any a cap D W hD (hE.below h))
  have HAL := Lib.hid (fun W (h : Below w.heap.size w W) => all_any tb fb tn fn tm fm a cap D W hD (hE.below h))
  have HRI := Lib.hid (fun b n W => cright_any b n W)
  obtain ⟨L, hL⟩ : ∃ L, L = (tb, tn, tm) :: (fb, fn, fm) :: D := ⟨_, rfl⟩
  rw [← hL] at HAL ⊢
  have hLl : L.length ≤ 1002 := by rw [hL]; simp; omega
  have HN := Lib.hid (show ∀ k (h : k < L.length), rightD L[k].1 L[k].2.1 = false → (L.all fun e => rightD e.1 e.2.1) = false from fun k h hx => by
    rw [List.all_eq_false]
    exact ⟨L[k], List.getElem_mem h, by rw [hx]; simp⟩)
  have HY := Lib.hid (show (∀ k (h : k < L.length), rightD L[k].1 L[k].2.1 = true) → (L.all fun e => rightD e.1 e.2.1) = true from fun hx => by
    rw [List.all_eq_true]
    intro x hm
    obtain ⟨i, hi, rfl⟩ := List.getElem_of_mem hm
    exact hx i hi)
  generalize (L.all fun e => rightD e.1 e.2.1) = A at *
  generalize ordD D = O at *
  clear hL hE hb0
  by_cases h8 : D.length ≤ 8
  · have d8 : decide ((8 : Int) < (D.length : Int)) = false := decide_eq_false (by omega)
    rw [decide_eq_true h8, Bool.true_and]
    subst hW0
    cases O
    · rw [Bool.false_and]
      go_enter Tryd.func15, Tryd.ntmps15
      go_wp2_with (go_at_call 26; (with_reducible refine (HIN.out _ HB0.out).mono ?_); rintro e w1 ⟨rfl, hb⟩; have HB := Lib.hid (HB0.out.trans (hb.mono HB0.out.size)); clear hb)
      go_ret
      exact ⟨rfl, HB.out⟩
    · rw [Bool.true_and]
      go_enter Tryd.func15, Tryd.ntmps15
      go_wp2_with (first
        | (go_at_call 26; (with_reducible refine (HIN.out _ HB0.out).mono ?_); rintro e w1 ⟨rfl, hb⟩; have HB := Lib.hid (HB0.out.trans (hb.mono HB0.out.size)); have HK1 := Lib.hid (HK.out.below hb); clear hb HK; obtain ⟨⟨c0, -, cl⟩, ⟨c1, -, -⟩, ⟨c2, -, -⟩, ⟨c3, -, -⟩, ⟨c4, -, -⟩, ⟨c5, -, -⟩, ⟨c6, -, -⟩⟩ := HK1.out)
        | (go_at_call 27; (with_reducible refine (HAL.out _ HB.out).mono ?_); rintro e w2 ⟨v, rfl, hv, hb⟩; have HE2 := Lib.hid hv.ents; replace HB := Lib.hid (HB.out.trans (hb.mono HB.out.size)); clear hb hv; obtain ⟨va, vc, hvv, hEE⟩ := HE2.out; subst hvv; have HE := Lib.hid hEE; clear hEE HE2))
      go_loopw [18] (fun i wx => ∃ k : Nat, k ≤ L.length ∧ i = .int .i64 k ∧ Hid ((∀ j (hj : j < k), ∀ hl : j < L.length, rightD L[j].1 L[j].2.1 = true) ∧ Below w.heap.size w wx ∧ EntsAt wx va vc L)) (fun i _ => L.length - (intOf i).toNat)
      case atStart => exact ⟨0, by omega, rfl, Lib.hid ⟨fun j hj => by omega, HB.out, HE.out⟩⟩
      case round =>
        obtain ⟨k, hk, rfl, HQ⟩ := hrel
        clear HE HB c0 c1 c2 c3 c4 c5 c6 HK1 cl
        by_cases hlt : k < L.length
        · have dk : decide ((k : Int) < (L.length : Int)) = true := decide_eq_true (by omega)
          obtain ⟨g, o, rfl, hg, c0, c1, c2⟩ := HQ.out.2.2.at_ k hlt
          have HN2 := Lib.hid (HN.out k hlt)
          generalize hd : L[k] = d at *
          obtain ⟨db, dn, dm⟩ := d
          simp only at c0 c1 c2 HN2
          have HDD := Lib.hid hd
          clear hd
          have HRR := Lib.hid (HRI.out db dn)
          have HB := Lib.hid (HQ.out.2.1.alloc HQ.out.2.1.size (.cells #[.string db, .int .i64 dn, .bool dm] 55))
          have HE := Lib.hid (HQ.out.2.2.alloc (.cells #[.string db, .int .i64 dn, .bool dm] 55))
          cases hr : rightD db dn
          · have hf := HN2.out hr
            subst hf
            rw [hr] at HRR
            go_wp2_with (go_at_call 28; (with_reducible refine (HRR.out _).mono ?_); rintro e w3 ⟨rfl, hb⟩; replace HB := Lib.hid (HB.out.trans (hb.mono HB.out.size)); clear hb)
            go_ret
            exact ⟨rfl, HB.out⟩
          · rw [hr] at HRR
            go_wp2_with (go_at_call 28; (with_reducible refine (HRR.out _).mono ?_); rintro e w3 ⟨rfl, hb⟩; replace HB := Lib.hid (HB.out.trans (hb.mono HB.out.size)); replace HE := Lib.hid (HE.out.below hb); clear hb)
            go_roundw
            case rel =>
              refine ⟨k + 1, by omega, by go_num, Lib.hid ⟨fun j hj hl => ?_, HB.out, HE.out⟩⟩
              by_cases hjk : j = k
              · subst hjk; rw [HDD.out]; exact hr
              · exact HQ.out.1 j (by omega) hl
            case measure => simp [intOf]; omega
        · obtain rfl : k = L.length := by omega
          have dk : decide ((L.length : Int) < (L.length : Int)) = false := decide_eq_false (by omega)
          have hf := HY.out (fun j hj => HQ.out.1 j hj hj)
          subst hf
          go_wp2
          go_ret
          exact ⟨rfl, HQ.out.2.1⟩
  · have d8 : decide ((8 : Int) < (D.length : Int)) = true := decide_eq_true (by omega)
    rw [decide_eq_false h8, Bool.false_and, Bool.false_and]
    subst hW0
    go_enter Tryd.func15, Tryd.ntmps15
    go_wp2_with fail
    go_ret
    exact ⟨rfl, HB0.out⟩
end Go.Proofs.YtmgfpnemamedoaaDoor
namespace Go.Proofs.YtmgfpnemamedoaaDoor
open Go.RowKit Go.Sort
set_option maxRecDepth 20000
set_option maxHeartbeats 1000000 in
theorem anew_any (b : ByteArray) (n : Int) (w : World) (h : b.size ≤ 140737488351232) :
    Calls Tryd.prog 14 #[.agg #[.string b, .int .i64 n]] w fun e w' => e = .returned (.agg #[.string b, .int .i64 n]) ∧ Below w.heap.size w w' := by
  have HC := Lib.hid (fun W => clone_any b W h)
  obtain ⟨W0, hW0⟩ : ∃ W0, W0 = ((w.alloc (.cells #[.string b, .int .i64 n] 27)).alloc (.cells #[.string ⟨#[]⟩, .int .i64 0] 27)) := ⟨_, rfl⟩
  have hb0 : Below w.heap.size w W0 := by rw [hW0]; exact ((Below.refl _ w).alloc (Nat.le_refl _) _).alloc (by simp) _
  have hx := (show KeepAt (w.alloc (.cells #[.string b, .int .i64 n] 27)) w.heap.size 0 (.string b) ∧ KeepAt (w.alloc (.cells #[.string b, .int .i64 n] 27)) w.heap.size 1 (.int .i64 n) from ⟨⟨World.cell?_alloc_at _ _ _ _ rfl, World.frozen?_alloc_at _ _ _ _ rfl, by simp⟩, ⟨World.cell?_alloc_at _ _ _ _ rfl, World.frozen?_alloc_at _ _ _ _ rfl, by simp⟩⟩)
  have HX := Lib.hid (show KeepAt W0 w.heap.size 0 (.string b) ∧ KeepAt W0 w.heap.size 1 (.int .i64 n) ∧ KeepAt W0 (w.heap.size + 1) 0 (.string ⟨#[]⟩) ∧ KeepAt W0 (w.heap.size + 1) 1 (.int .i64 0) from by
    have e : w.heap.size + 1 = (w.alloc (.cells #[.string b, .int .i64 n] 27)).heap.size := by simp
    rw [hW0]
    refine ⟨hx.1.alloc _, hx.2.alloc _, ?_, ?_⟩ <;> rw [e] <;> exact ⟨World.cell?_alloc_at _ _ _ _ rfl, World.frozen?_alloc_at _ _ _ _ rfl, by simp⟩)
  have HB0 := Lib.hid hb0
  clear hx hb0 h
  subst hW0
  go_enter Tryd.func14, Tryd.ntmps14
  go_wp2_with (go_at_call 25; (with_reducible refine (HC.out _).mono ?_); rintro e w1 ⟨rfl, hb⟩; have HB := Lib.hid (HB0.out.trans (hb.mono HB0.out.size)); have HX1 := Lib.hid (show _ ∧ _ ∧ _ ∧ _ from ⟨HX.out.1.below hb, HX.out.2.1.below hb, HX.out.2.2.1.below hb, HX.out.2.2.2.below hb⟩); clear hb; obtain ⟨⟨a0, f0, l0⟩, ⟨a1, f1, -⟩, ⟨b0, g0, l1⟩, ⟨b1, g1, -⟩⟩ := HX1.out)
  have z := (HX1.out.2.2.1.other (g := w.heap.size) (p := 0) (.string b) (by omega))
  have z' := (HX1.out.2.2.2.other (g := w.heap.size) (p := 0) (.string b) (by omega))
  obtain ⟨z0, z1⟩ := stored2 (W := w1.setCell ⟨w.heap.size, 0, none⟩ (.string b)) (.string b) (.int .i64 n) z.cell z'.cell
  exact bodyPost_ret (v := .agg #[.string b, .int .i64 n]) (by simp [results, Tryd.results14, go_sem, z0, z1]) rfl ⟨rfl, set2_below (HB.out.setCell (p := ⟨w.heap.size, 0, none⟩) (Nat.le_refl _) _) (by omega) _ _⟩
set_option maxHeartbeats 1000000 in
theorem ahead_any (fb tb : ByteArray) (fn tn : Int) (c : Bool) (w : World) (hf : fb.size ≤ 140737488351232) (ht : tb.size ≤ 140737488351232) :
    Calls Tryd.prog 13 #[.agg #[.string fb, .int .i64 fn], .agg #[.string tb, .int .i64 tn], .bool c] w fun e w' => e = .returned (.agg #[.string tb, .int .i64 tn, .string fb, .int .i64 fn, .bool c, .bool (!c), .slice none 0 0]) ∧ Below w.heap.size w w' := by
  have HF := Lib.hid (fun W => anew_any fb fn W hf)
  have HT := Lib.hid (fun W => anew_any tb tn W ht)
  obtain ⟨W, hW⟩ : ∃ W, W = (((w.alloc (.cells #[.string fb, .int .i64 fn] 27)).alloc (.cells #[.string tb, .int .i64 tn] 27)).alloc (.cells #[.string ⟨#[]⟩, .int .i64 0, .string ⟨#[]⟩, .int .i64 0, .bool false, .bool false, .slice none 0 0] 30)) := ⟨_, rfl⟩
  have hb0 : Below w.heap.size w W := by rw [hW]; exact (((Below.refl _ w).alloc (Nat.le_refl _) _).alloc (by simp) _).alloc (by simp; omega) _
  have hs : W.heap.size = w.heap.size + 1 + 1 + 1 := by rw [hW]; simp
  have k1 : KeepAt (w.alloc (.cells #[.string fb, .int .i64 fn] 27)) w.heap.size 0 (.string fb) := ⟨World.cell?_alloc_at _ _ _ _ rfl, World.frozen?_alloc_at _ _ _ _ rfl, by simp⟩
  have k2 : KeepAt (w.alloc (.cells #[.string fb, .int .i64 fn] 27)) w.heap.size 1 (.int .i64 fn) := ⟨World.cell?_alloc_at _ _ _ _ rfl, World.frozen?_alloc_at _ _ _ _ rfl, by simp⟩
  have e1 : w.heap.size + 1 = (w.alloc (.cells #[.string fb, .int .i64 fn] 27)).heap.size := by simp
  have k3 : KeepAt ((w.alloc (.cells #[.string fb, .int .i64 fn] 27)).alloc (.cells #[.string tb, .int .i64 tn] 27)) (w.heap.size + 1) 0 (.string tb) := by rw [e1]; exact ⟨World.cell?_alloc_at _ _ _ _ rfl, World.frozen?_alloc_at _ _ _ _ rfl, by simp⟩
  have k4 : KeepAt ((w.alloc (.cells #[.string fb, .int .i64 fn] 27)).alloc (.cells #[.string tb, .int .i64 tn] 27)) (w.heap.size + 1) 1 (.int .i64 tn) := by rw [e1]; exact ⟨World.cell?_alloc_at _ _ _ _ rfl, World.frozen?_alloc_at _ _ _ _ rfl, by simp⟩
  have HKK := Lib.hid (show KeepAt W w.heap.size 0 (.string fb) ∧ KeepAt W w.heap.size 1 (.int .i64 fn) ∧ KeepAt W (w.heap.size + 1) 0 (.string tb) ∧ KeepAt W (w.heap.size + 1) 1 (.int .i64 tn) from by rw [hW]; exact ⟨(k1.alloc _).alloc _, (k2.alloc _).alloc _, k3.alloc _, k4.alloc _⟩)
  have HP := Lib.hid (show P7 W (w.heap.size + 1 + 1) _ _ _ _ _ _ _ from by rw [hW]; exact P7.new _ _ (by simp) _ _ _ _ _ _ _ _)
  have HB0 := Lib.hid hb0
  clear k1 k2 k3 k4 e1 hb0
  go_enter Tryd.func13, Tryd.ntmps13
  go_wp2
  rw [← hW]
  clear hW
  have hl0 : w.heap.size < w.heap.size + 1 + 1 := by omega
  have hl1 : w.heap.size + 1 < w.heap.size + 1 + 1 := by omega
  refine wp_region_held (S := fun W' => Below (w.heap.size + 1 + 1) W W') (by kernel_rfl) ?_
  change wpAnyH _ _ _ _ _ _ _ _ W.drew
  have HB := Lib.hid ((Below.refl (w.heap.size + 1 + 1) W).drew)
  refine wpAnyH_take (i := 0) (v := ?_) rfl (by kernel_rfl) (by kernel_rfl) (by kernel_rfl) (fun _ _ _ h => h) (Or.inl ⟨by rfl, ?_⟩) HB.out ?_
  rotate_left
  · intro w' hw'
    have x0 := (hw'.cell (p := ⟨w.heap.size, 0, none⟩) hl0).trans HKK.out.1.cell; have x1 := (hw'.cell (p := ⟨w.heap.size, 1, none⟩) hl0).trans HKK.out.2.1.cell; have x2 := (hw'.cell (p := ⟨w.heap.size + 1, 0, none⟩) hl1).trans HKK.out.2.2.1.cell; have x3 := (hw'.cell (p := ⟨w.heap.size + 1, 1, none⟩) hl1).trans HKK.out.2.2.2.cell
    go_simp
    with_reducible rfl
  refine wpAnyH_take (i := 2) (v := ?_) rfl (by kernel_rfl) (by kernel_rfl) (by kernel_rfl) (fun _ _ _ h => h) (Or.inl ⟨by rfl, ?_⟩) HB.out ?_
  rotate_left
  · intro w' hw'
    have x0 := (hw'.cell (p := ⟨w.heap.size, 0, none⟩) hl0).trans HKK.out.1.cell; have x1 := (hw'.cell (p := ⟨w.heap.size, 1, none⟩) hl0).trans HKK.out.2.1.cell; have x2 := (hw'.cell (p := ⟨w.heap.size + 1, 0, none⟩) hl1).trans HKK.out.2.2.1.cell; have x3 := (hw'.cell (p := ⟨w.heap.size + 1, 1, none⟩) hl1).trans HKK.out.2.2.2.cell
    go_simp
    with_reducible rfl
  refine wpAnyH_take (i := 4) (v := ?_) rfl (by kernel_rfl) (by kernel_rfl) (by kernel_rfl) (fun _ _ _ h => h) (Or.inl ⟨by rfl, ?_⟩) HB.out ?_
  rotate_left
  · intro w' hw'
    have x0 := (hw'.cell (p := ⟨w.heap.size, 0, none⟩) hl0).trans HKK.out.1.cell; have x1 := (hw'.cell (p := ⟨w.heap.size, 1, none⟩) hl0).trans HKK.out.2.1.cell; have x2 := (hw'.cell (p := ⟨w.heap.size + 1, 0, none⟩) hl1).trans HKK.out.2.2.1.cell; have x3 := (hw'.cell (p := ⟨w.heap.size + 1, 1, none⟩) hl1).trans HKK.out.2.2.2.cell
    go_simp
    with_reducible rfl
  refine wpAnyH_take (i := 5) (v := ?_) rfl (by kernel_rfl) (by kernel_rfl) (by kernel_rfl) (fun _ _ _ h => h) (Or.inl ⟨by rfl, ?_⟩) HB.out ?_
  rotate_left
  · intro w' hw'
    have x0 := (hw'.cell (p := ⟨w.heap.size, 0, none⟩) hl0).trans HKK.out.1.cell; have x1 := (hw'.cell (p := ⟨w.heap.size, 1, none⟩) hl0).trans HKK.out.2.1.cell; have x2 := (hw'.cell (p := ⟨w.heap.size + 1, 0, none⟩) hl1).trans HKK.out.2.2.1.cell; have x3 := (hw'.cell (p := ⟨w.heap.size + 1, 1, none⟩) hl1).trans HKK.out.2.2.2.cell
    go_simp
    with_reducible rfl
  refine wpAnyH_take (i := 6) (v := ?_) rfl (by kernel_rfl) (by kernel_rfl) (by kernel_rfl) (fun _ _ _ h => h) (Or.inl ⟨by rfl, ?_⟩) HB.out ?_
  rotate_left
  · intro w' hw'
    have x0 := (hw'.cell (p := ⟨w.heap.size, 0, none⟩) hl0).trans HKK.out.1.cell; have x1 := (hw'.cell (p := ⟨w.heap.size, 1, none⟩) hl0).trans HKK.out.2.1.cell; have x2 := (hw'.cell (p := ⟨w.heap.size + 1, 0, none⟩) hl1).trans HKK.out.2.2.1.cell; have x3 := (hw'.cell (p := ⟨w.heap.size + 1, 1, none⟩) hl1).trans HKK.out.2.2.2.cell
    go_simp
    with_reducible rfl
  refine wpAnyH_ready (rs := [1]) (by kernel_rfl) (by simp) ?_
  refine AllReadyH.cons rfl (fun K hK => ?_) AllReadyH.nil
  go_simp
  go_at_call 14
  refine (HT.out _).mono ?_
  rintro e w3 ⟨rfl, hb⟩
  have HP := Lib.hid (HP.out.drew.below hb)
  have HB := Lib.hid (HB.out.trans (hb.mono (by show _ ≤ W.heap.size; omega)))
  change K _ _
  refine hK.out _ _ HB.out (fun _ => ?_)
  clear hK K
  have hs3 : w.heap.size + 1 + 1 + 1 ≤ w3.heap.size := by rw [← hs]; exact hb.size
  clear hb
  refine wpAnyH_ready (rs := [3]) (by kernel_rfl) (by simp) ?_
  refine AllReadyH.cons rfl (fun K hK => ?_) AllReadyH.nil
  go_simp
  go_at_call 14
  refine (HF.out _).mono ?_
  rintro e w4 ⟨rfl, hb⟩
  have HP := Lib.hid (HP.out.below hb)
  have HB := Lib.hid (HB.out.trans (hb.mono (by omega)))
  have hbb := hb
  change K _ _
  refine hK.out _ _ HB.out (fun _ => ?_)
  clear hK K
  have hs4 : w.heap.size + 1 + 1 + 1 ≤ w4.heap.size := by have := hb.size; omega
  clear hb
  refine wpAnyH_take (i := 7) (v := ?_) rfl (by kernel_rfl) (by kernel_rfl) (by kernel_rfl) (fun _ _ _ h => h) (Or.inl ⟨by rfl, ?_⟩) HB.out ?_
  rotate_left
  · intro w' hw'
    go_simp
    with_reducible rfl
  obtain ⟨⟨p0, q0, pl⟩, ⟨p1, q1, -⟩, ⟨p2, q2, -⟩, ⟨p3, q3, -⟩, ⟨p4, q4, -⟩, ⟨p5, q5, -⟩, ⟨p6, q6, -⟩⟩ := HP.out
  have S7 := stored7 (.string tb) (.int .i64 tn) (.string fb) (.int .i64 fn) (.bool c) (.bool !c) (.slice none 0 0) HP.out
  have HB := Lib.hid (set7_below HB.out (Nat.le_refl _) (.string tb) (.int .i64 tn) (.string fb) (.int .i64 fn) (.bool c) (.bool !c) (.slice none 0 0))
  refine wpAnyH_ready (rs := [8]) (by kernel_rfl) (by simp) ?_
  refine AllReadyH.cons rfl (fun K hK => ?_) AllReadyH.nil
  go_simp
  refine hK.out _ _ HB.out (fun _ => ?_)
  clear hK K
  refine wpAnyH_done (by kernel_rfl) ?_ _
  go_wp2
  exact bodyPost_ret (v := .agg #[.string tb, .int .i64 tn, .string fb, .int .i64 fn, .bool c, .bool (!c), .slice none 0 0]) (by simp [results, Tryd.results13, go_sem, S7.k0.cell, S7.k1.cell, S7.k2.cell, S7.k3.cell, S7.k4.cell, S7.k5.cell, S7.k6.cell]) rfl ⟨rfl, HB0.out.trans (HB.out.mono (by omega))⟩
end Go.Proofs.YtmgfpnemamedoaaDoor
