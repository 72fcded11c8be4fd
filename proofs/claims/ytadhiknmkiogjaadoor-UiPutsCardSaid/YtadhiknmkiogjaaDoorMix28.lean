/-
The landed code's Get.
The document's own Next and Sent of paths.
The landed code's Sent.
The landed code's Sent once more: its digipeaters are the call's own.
-/
import Derived.Test.YtadhiknmkiogjaaDoorMix27
import Derived.Test.YtadhiknmkiogjaaDoorFrmCDecX
import Derived.Lib.AppendZeros
import Derived.Test.YtadhiknmkiogjaaDoorPathBase
import Derived.Lib.SmallJoins
import Derived.Lib.ItoaNum
import Derived.BigRegion
import Derived.IntWalk
import Derived.Lib.QuietBelow
import Derived.BigQuiet
import Derived.Deep.QuietTactic
import Derived.Lib.IndexBytes
import Derived.Test.YtadhiknmkiogjaaDoorMix10
import Derived.Test.YtadhiknmkiogjaaDoorPathCAnew
import Derived.Test.YtadhiknmkiogjaaDoorMix05
namespace Go.Proofs.YtadhiknmkiogjaaDoor
open Go.RowKit Go.Sort
set_option maxRecDepth 20000
theorem noGr_v (a : Option Addr) (c : Nat) (h : a = none) (h2 : c = 0) : grV noGr a c = .agg #[.string ⟨#[]⟩, .int .i64 0, .string ⟨#[]⟩, .int .i64 0, .slice none 0 0, .int .i64 0, .string ⟨#[]⟩] := by subst h h2; rfl
set_option maxHeartbeats 1000000 in
theorem uget_err (s : ByteArray) (w : World) (hs : s.size ≤ 100000) (hC : CodesOk w) (h : decE s.data.toList false ≠ 0) :
    Calls Tryd.prog 10 #[.string s] w fun e w' => GotTo s.data.toList w e w' := by
  have HB0 := Lib.hid ((Below.refl _ w).alloc (Nat.le_refl _) (.cells #[.string ⟨#[]⟩, .int .i64 0, .string ⟨#[]⟩, .int .i64 0, .slice none 0 0, .int .i64 0, .string ⟨#[]⟩] 26))
  have HF0 := Lib.hid (P7.new w w.heap.size rfl (.string ⟨#[]⟩) (.int .i64 0) (.string ⟨#[]⟩) (.int .i64 0) (.slice none 0 0) (.int .i64 0) (.string ⟨#[]⟩) 26)
  have hE : getE22 s.data.toList = decE s.data.toList false := by unfold getE22; rw [if_pos h]
  have hN : got22 s.data.toList = noGr := got_no22 (by rw [hE]; exact h)
  unfold GotTo
  rw [hN, hE]
  have hd := fun W (hb : Below w.heap.size w W) => (fdecx_any s false W hs (hC.below hb)).mono fun e w' hq => show e = .returned (.tuple #[.agg #[.string ⟨#[]⟩, .int .i64 0, .string ⟨#[]⟩, .int .i64 0, .bool false, .bool false, .slice none 0 0, .int .i64 0, .int .i64 0, .int .i64 0, .bool false, .int .i64 0, .string ⟨#[]⟩], .int .i64 (decE s.data.toList false : Nat)]) ∧ Below W.heap.size W w' from ⟨hq.1 h, hq.2.2⟩
  generalize decE s.data.toList false = E at *
  have hz : ((E : Int) != 0) = true := by rw [bne_iff_ne]; omega
  have HD := Lib.hid hd
  clear hd hE hN h hC hs
  go_enter Tryd.func10, Tryd.ntmps10
  go_wp2_with (go_at_call 24; (with_reducible refine (HD.out _ HB0.out).mono ?_); rintro e w1 ⟨rfl, hb⟩; have hb1 := HB0.out.trans (hb.mono HB0.out.size); have HB := Lib.hid (hb1.alloc hb1.size (.cells #[.string ⟨#[]⟩, .int .i64 0, .string ⟨#[]⟩, .int .i64 0, .bool false, .bool false, .slice none 0 0, .int .i64 0, .int .i64 0, .int .i64 0, .bool false, .int .i64 0, .string ⟨#[]⟩] 65)); have HF := Lib.hid ((HF0.out.below hb).alloc (.cells #[.string ⟨#[]⟩, .int .i64 0, .string ⟨#[]⟩, .int .i64 0, .bool false, .bool false, .slice none 0 0, .int .i64 0, .int .i64 0, .int .i64 0, .bool false, .int .i64 0, .string ⟨#[]⟩] 65)); clear hb hb1; obtain ⟨⟨p0, q0, pl⟩, ⟨p1, q1, -⟩, ⟨p2, q2, -⟩, ⟨p3, q3, -⟩, ⟨p4, q4, -⟩, ⟨p5, q5, -⟩, ⟨p6, q6, -⟩⟩ := HF.out)
  have S7 := stored7 (.string ⟨#[]⟩) (.int .i64 0) (.string ⟨#[]⟩) (.int .i64 0) (.slice none 0 0) (.int .i64 0) (.string ⟨#[]⟩) HF.out
  have HBF := Lib.hid (set7_below HB.out (Nat.le_refl _) (.string ⟨#[]⟩) (.int .i64 0) (.string ⟨#[]⟩) (.int .i64 0) (.slice none 0 0) (.int .i64 0) (.string ⟨#[]⟩))
  exact bodyPost_ret (v := .tuple #[.agg #[.string ⟨#[]⟩, .int .i64 0, .string ⟨#[]⟩, .int .i64 0, .slice none 0 0, .int .i64 0, .string ⟨#[]⟩], .int .i64 (E : Int)]) (by simp [results, Tryd.results10, go_sem, S7.k0.cell, S7.k1.cell, S7.k2.cell, S7.k3.cell, S7.k4.cell, S7.k5.cell, S7.k6.cell]) rfl ⟨⟨none, 0, rfl, fun k hk => absurd hk (Nat.not_lt_zero _)⟩, HBF.out⟩
theorem ctl_parts (s : List UInt8) : ∃ k nr ns pf mm er, ctlOf s false = (k, nr, ns, pf, mm, er) := ⟨_, _, _, _, _, _, rfl⟩
theorem udec (s : ByteArray) (w : World) (hs : s.size ≤ 100000) (hC : CodesOk w) (h : decE s.data.toList false = 0) (k nr ns : Nat) (pf : Bool) (mm er : Nat) (hc : ctlOf s.data.toList false = (k, nr, ns, pf, mm, er)) :
    ∀ W, Below w.heap.size w W → Calls Tryd.prog 24 #[.string s, .bool false] W fun e w' => (∃ (x y : Ent) (D : List Ent) (da : Option Addr) (dc : Nat) (pid : Int) (info : ByteArray), (getP 10 [] s.data.toList).2 = x :: y :: D ∧ e = .returned (.tuple #[.agg #[.string x.1, .int .i64 x.2.1, .string y.1, .int .i64 y.2.1, .bool x.2.2, .bool y.2.2, .slice da D.length dc, .int .i64 (k : Nat), .int .i64 (nr : Nat), .int .i64 (ns : Nat), .bool pf, .int .i64 pid, .string info], .int .i64 0]) ∧ EntsAt w' da dc D ∧ PidInf s.data.toList false pid info.data.toList ∧ D.length ≤ 8) ∧ Below W.heap.size W w' := fun W hb => (fdecx_any s false W hs (hC.below hb)).mono fun e w' hq => by
  obtain ⟨-, q2, q3⟩ := hq
  obtain ⟨x, y, D, da, dc, pid, info, h1, h2, h3, -, h5⟩ := q2 h
  rw [hc] at h2
  have hl := getP_len 10 [] s.data.toList rfl
  rw [h1] at hl
  exact ⟨⟨x, y, D, da, dc, pid, info, h1, h2, h3, h5, by simpa using hl⟩, q3⟩
set_option maxHeartbeats 1000000 in
theorem uget_kind (s : ByteArray) (w : World) (hs : s.size ≤ 100000) (hC : CodesOk w) (h : decE s.data.toList false = 0) (hk : (ctlOf s.data.toList false).1 ≠ 12) :
    Calls Tryd.prog 10 #[.string s] w fun e w' => GotTo s.data.toList w e w' := by
  have HB0 := Lib.hid ((Below.refl _ w).alloc (Nat.le_refl _) (.cells #[.string ⟨#[]⟩, .int .i64 0, .string ⟨#[]⟩, .int .i64 0, .slice none 0 0, .int .i64 0, .string ⟨#[]⟩] 26))
  have HF0 := Lib.hid (P7.new w w.heap.size rfl (.string ⟨#[]⟩) (.int .i64 0) (.string ⟨#[]⟩) (.int .i64 0) (.slice none 0 0) (.int .i64 0) (.string ⟨#[]⟩) 26)
  have hE : getE22 s.data.toList = 2 := by unfold getE22; rw [if_neg (fun q => q h), if_neg hk]
  have hN : got22 s.data.toList = noGr := got_no22 (by rw [hE]; decide)
  unfold GotTo
  rw [hN, hE]
  obtain ⟨k, nr, ns, pf, mm, er, hc⟩ := ctl_parts s.data.toList
  have HD := Lib.hid (udec s w hs hC h k nr ns pf mm er hc)
  rw [hc] at hk
  have hz : ((k : Int) != 12) = true := by rw [bne_iff_ne]; intro q; apply hk; show k = 12; omega
  clear hE hN h hC hs hc hk
  go_enter Tryd.func10, Tryd.ntmps10
  go_wp2_with (first
    | (go_at_call 24; (with_reducible refine (HD.out _ HB0.out).mono ?_); rintro e w1 ⟨⟨⟨xb, xn, xm⟩, ⟨yb, yn, ym⟩, D, da, dc, pid, info, hp, rfl, hE, hpi, -⟩, hb⟩; have hb1 := HB0.out.trans (hb.mono HB0.out.size); have HB := Lib.hid (hb1.alloc hb1.size (.cells #[.string xb, .int .i64 xn, .string yb, .int .i64 yn, .bool xm, .bool ym, .slice da D.length dc, .int .i64 (k : Nat), .int .i64 (nr : Nat), .int .i64 (ns : Nat), .bool pf, .int .i64 pid, .string info] 65)); have HF := Lib.hid ((HF0.out.below hb).alloc (.cells #[.string xb, .int .i64 xn, .string yb, .int .i64 yn, .bool xm, .bool ym, .slice da D.length dc, .int .i64 (k : Nat), .int .i64 (nr : Nat), .int .i64 (ns : Nat), .bool pf, .int .i64 pid, .string info] 65)); have HR := Lib.hid (RowAt.new w1 w1.heap.size rfl [.string xb, .int .i64 xn, .string yb, .int .i64 yn, .bool xm, .bool ym, .slice da D.length dc, .int .i64 (k : Nat), .int .i64 (nr : Nat), .int .i64 (ns : Nat), .bool pf, .int .i64 pid, .string info] 65); clear hb hb1 hE hp hpi; have f7 := HR.out.cell 7 rfl; obtain ⟨⟨p0, q0, pl⟩, ⟨p1, q1, -⟩, ⟨p2, q2, -⟩, ⟨p3, q3, -⟩, ⟨p4, q4, -⟩, ⟨p5, q5, -⟩, ⟨p6, q6, -⟩⟩ := HF.out))
  have S7 := stored7 (.string ⟨#[]⟩) (.int .i64 0) (.string ⟨#[]⟩) (.int .i64 0) (.slice none 0 0) (.int .i64 0) (.string ⟨#[]⟩) HF.out
  have HBF := Lib.hid (set7_below HB.out (Nat.le_refl _) (.string ⟨#[]⟩) (.int .i64 0) (.string ⟨#[]⟩) (.int .i64 0) (.slice none 0 0) (.int .i64 0) (.string ⟨#[]⟩))
  exact bodyPost_ret (v := .tuple #[.agg #[.string ⟨#[]⟩, .int .i64 0, .string ⟨#[]⟩, .int .i64 0, .slice none 0 0, .int .i64 0, .string ⟨#[]⟩], .int .i64 2]) (by simp [results, Tryd.results10, go_sem, S7.k0.cell, S7.k1.cell, S7.k2.cell, S7.k3.cell, S7.k4.cell, S7.k5.cell, S7.k6.cell]) rfl ⟨⟨none, 0, rfl, fun k hk => absurd hk (Nat.not_lt_zero _)⟩, HBF.out⟩
set_option maxHeartbeats 2000000 in
theorem uget_yes (s : ByteArray) (w : World) (hs : s.size ≤ 100000) (hC : CodesOk w) (h : decE s.data.toList false = 0) (hk : (ctlOf s.data.toList false).1 = 12) :
    Calls Tryd.prog 10 #[.string s] w fun e w' => GotTo s.data.toList w e w' := by
  have HB0 := Lib.hid ((Below.refl _ w).alloc (Nat.le_refl _) (.cells #[.string ⟨#[]⟩, .int .i64 0, .string ⟨#[]⟩, .int .i64 0, .slice none 0 0, .int .i64 0, .string ⟨#[]⟩] 26))
  have HF0 := Lib.hid (P7.new w w.heap.size rfl (.string ⟨#[]⟩) (.int .i64 0) (.string ⟨#[]⟩) (.int .i64 0) (.slice none 0 0) (.int .i64 0) (.string ⟨#[]⟩) 26)
  have HYES := Lib.hid (fun x y D pid info => got_yes22 (s := s.data.toList) (x := x) (y := y) (D := D) (pid := pid) (info := info) h hk)
  unfold GotTo
  obtain ⟨k, nr, ns, pf, mm, er, hc⟩ := ctl_parts s.data.toList
  have HD := Lib.hid (udec s w hs hC h k nr ns pf mm er hc)
  rw [hc] at hk
  have hz : ((k : Int) != 12) = false := by rw [bne_eq_false_iff_eq]; have : k = 12 := hk; omega
  clear h hC hs hc hk
  go_enter Tryd.func10, Tryd.ntmps10
  go_wp2_with (first
    | (go_at_call 24; go_loud ((with_reducible refine (HD.out _ HB0.out).mono ?_); rintro e w1 ⟨⟨⟨xb, xn, xm⟩, ⟨yb, yn, ym⟩, D, da, dc, pid, info, hp, rfl, hE, hpi, hl8⟩, hb⟩; have HG := Lib.hid (HYES.out _ _ D pid info hp hpi); have hb1 := HB0.out.trans (hb.mono HB0.out.size); have HU := Lib.hid (show GgU w ((w1.alloc (.cells #[.string xb, .int .i64 xn, .string yb, .int .i64 yn, .bool xm, .bool ym, .slice da D.length dc, .int .i64 (k : Nat), .int .i64 (nr : Nat), .int .i64 (ns : Nat), .bool pf, .int .i64 pid, .string info] 65)).alloc (.cells #[.string yb, .int .i64 yn, .string xb, .int .i64 xn, .slice none 0 0, .int .i64 pid, .string info] 26)) (w1.heap.size + 1) w.heap.size [] da dc D (.string yb) (.int .i64 yn) (.string xb) (.int .i64 xn) (.slice none 0 0) (.int .i64 pid) (.string info) ((D.take 0).map callOf) from ⟨RowAt.new (w1.alloc (.cells #[.string xb, .int .i64 xn, .string yb, .int .i64 yn, .bool xm, .bool ym, .slice da D.length dc, .int .i64 (k : Nat), .int .i64 (nr : Nat), .int .i64 (ns : Nat), .bool pf, .int .i64 pid, .string info] 65)) (w1.heap.size + 1) (by simp) [.string yb, .int .i64 yn, .string xb, .int .i64 xn, .slice none 0 0, .int .i64 pid, .string info] 26, OwnL.nil _ _ _ _, (hb1.alloc hb1.size _).alloc (hb1.alloc hb1.size _).size _, ((HF0.out.below hb).alloc _).alloc _, (hE.alloc _).alloc _, (fun i v hv => absurd hv (by simp)), (fun h0 q hq => by (obtain ⟨g, o, ha, hg, -⟩ := hE.at_ 0 h0; rw [hq] at ha; obtain rfl := Option.some.inj ha; exact Nat.lt_succ_of_lt hg)), (by (have : w.heap.size < w1.heap.size := Nat.lt_of_lt_of_le (by simp) hb.size; omega)), (by (have : w.heap.size < w1.heap.size := Nat.lt_of_lt_of_le (by simp) hb.size; omega)), (by simp)⟩); have HR := Lib.hid (RowAt.new w1 w1.heap.size rfl [.string xb, .int .i64 xn, .string yb, .int .i64 yn, .bool xm, .bool ym, .slice da D.length dc, .int .i64 (k : Nat), .int .i64 (nr : Nat), .int .i64 (ns : Nat), .bool pf, .int .i64 pid, .string info] 65); have HL := Lib.hid (show D.length ≤ 1000 from by omega); clear hb hb1 hE hp hpi; have f0 := HR.out.cell 0 rfl; have f1 := HR.out.cell 1 rfl; have f2 := HR.out.cell 2 rfl; have f3 := HR.out.cell 3 rfl; have f6 := HR.out.cell 6 rfl; have f7 := HR.out.cell 7 rfl; have f11 := HR.out.cell 11 rfl; have f12 := HR.out.cell 12 rfl)))
  clear f0 f1 f2 f3 f6 f7 f11 f12 HR HB0 HF0
  generalize (w1.alloc (.cells #[.string xb, .int .i64 xn, .string yb, .int .i64 yn, .bool xm, .bool ym, .slice da D.length dc, .int .i64 (k : Nat), .int .i64 (nr : Nat), .int .i64 (ns : Nat), .bool pf, .int .i64 pid, .string info] 65)).alloc (.cells #[.string yb, .int .i64 yn, .string xb, .int .i64 xn, .slice none 0 0, .int .i64 pid, .string info] 26) = W3 at *
  generalize w1.heap.size + 1 = m at *
  go_loopw [40] (fun i wx => ∃ j : Nat, j ≤ D.length ∧ i = .int .i64 j ∧ ∃ tv, Hid (GgU w wx m w.heap.size [] da dc D (.string yb) (.int .i64 yn) (.string xb) (.int .i64 xn) tv (.int .i64 pid) (.string info) ((D.take j).map callOf))) (fun i _ => D.length - (intOf i).toNat)
  case atStart => exact ⟨0, Nat.zero_le _, rfl, _, HU⟩
  case round =>
    obtain ⟨j, hj, rfl, tv, HQ⟩ := hrel
    clear HU
    by_cases hlt : j < D.length
    · have dj : decide (j < D.length) = true := decide_eq_true hlt
      have dj2 : decide ((j : Int) < (D.length : Int)) = true := decide_eq_true (by omega)
      have hnx := call_next D j hlt
      obtain ⟨g, o, rfl, hg, c0, c1, c2⟩ := HQ.out.ents.at_ j hlt
      generalize D[j] = d at *
      obtain ⟨db, dn, dm⟩ := d
      simp only at c0 c1 c2 hnx
      have hle : ((D.take j).map callOf).length ≤ 100000 := by simp; omega
      generalize (D.take j).map callOf = LL at *
      have hu1 := HQ.out.alloc (.cells #[.string db, .int .i64 dn, .bool dm] 79)
      have x4 := hu1.row.cell 4 rfl
      have hu2 := hu1.alloc (.cells #[.string db, .int .i64 dn] 23)
      have hm := AtL.made encCl 23 (wr.alloc (.cells #[.string db, .int .i64 dn, .bool dm] 79)) (wr.heap.size + 1) (db, dn) [.string db, .int .i64 dn] rfl (by simp)
      obtain ⟨v4, w4, hrun, hown, hgr, hwh⟩ := run_append_one encCl 23 24 24 Tryd.underlying24 infoCl rfl (by decide) _ (m + 1) tv LL hu2.own (wr.heap.size + 1) 1 (db, dn) hm hle (by have := hu2.lt; omega)
      rw [← hnx] at hown
      obtain ⟨va, vn, vc, rfl⟩ := own_form22 hown
      obtain ⟨k1, -, -, k4⟩ := hu2.grown hown hgr hwh
      have HRUN := Lib.hid hrun
      have HU4 := Lib.hid k4
      obtain ⟨xx, xy, xz⟩ := k1.get 4 rfl
      have hmw : m < wr.heap.size := HQ.out.lt.2.2
      clear hu1 hu2 hm hrun hown hgr hwh k1 k4 hnx hle
      go_wp2_with (at_builtin; refine Lib.wpList_append_run _ rfl _ _ _ _ rfl _ _ rfl rfl _ _ HRUN.out ?_)
      generalize w4.setCell ⟨m, 4, none⟩ (.slice va vn vc) = w5 at *
      go_roundw
      case rel => exact ⟨j + 1, by omega, by go_num, _, HU4⟩
      case measure => simp [intOf]; omega
    · obtain rfl : j = D.length := by omega
      have dj : decide (D.length < D.length) = false := decide_eq_false hlt
      have dj2 : decide ((D.length : Int) < (D.length : Int)) = false := decide_eq_false (by omega)
      rw [List.take_length] at HQ
      obtain ⟨va, vc, htv, hat⟩ := HQ.out.own.see
      rw [List.length_map] at htv
      subst htv
      have y0 := HQ.out.row.cell 0 rfl
      have y1 := HQ.out.row.cell 1 rfl
      have y2 := HQ.out.row.cell 2 rfl
      have y3 := HQ.out.row.cell 3 rfl
      have y4 := HQ.out.row.cell 4 rfl
      have y5 := HQ.out.row.cell 5 rfl
      have y6 := HQ.out.row.cell 6 rfl
      obtain ⟨⟨p0, q0, pl⟩, ⟨p1, q1, -⟩, ⟨p2, q2, -⟩, ⟨p3, q3, -⟩, ⟨p4, q4, -⟩, ⟨p5, q5, -⟩, ⟨p6, q6, -⟩⟩ := HQ.out.res
      clear hat
      have HGV := Lib.hid (show grV (got22 s.data.toList) va vc = .agg #[.string yb, .int .i64 yn, .string xb, .int .i64 xn, .slice va D.length vc, .int .i64 pid, .string info] from by rw [HG.out.2]; unfold grV; dsimp only; rw [List.length_map])
      have HGC := Lib.hid (show (got22 s.data.toList).2.2.2.2.1 = D.map callOf from by rw [HG.out.2])
      have HGE := Lib.hid HG.out.1
      have HBF := Lib.hid (set7_below HQ.out.bel (Nat.le_refl _) (.string yb) (.int .i64 yn) (.string xb) (.int .i64 xn) (.slice va D.length vc) (.int .i64 pid) (.string info))
      have hof := HQ.out.own.grown (grown7 (m := w.heap.size) (grown_refl wr (some w.heap.size)) (Or.inr rfl) (.string yb) (.int .i64 yn) (.string xb) (.int .i64 xn) (.slice va D.length vc) (.int .i64 pid) (.string info)) (fun g hv e => by have h1 := (HQ.out.own.ge hv).1; have h2 := HQ.out.lt.1; have h3 := Option.some.inj e; omega)
      obtain ⟨a', c', hv', hA⟩ := hof.see
      simp only [Value.slice.injEq] at hv'
      obtain ⟨rfl, -, -⟩ := hv'
      have HCA := Lib.hid hA.calls
      clear hA hof
      go_wp2
      have S7 := stored7 (.string yb) (.int .i64 yn) (.string xb) (.int .i64 xn) (.slice va D.length vc) (.int .i64 pid) (.string info) HQ.out.res
      exact bodyPost_ret (v := .tuple #[.agg #[.string yb, .int .i64 yn, .string xb, .int .i64 xn, .slice va D.length vc, .int .i64 pid, .string info], .int .i64 0]) (by simp [results, Tryd.results10, go_sem, S7.k0.cell, S7.k1.cell, S7.k2.cell, S7.k3.cell, S7.k4.cell, S7.k5.cell, S7.k6.cell]) rfl ⟨⟨va, vc, by rw [HGV.out, HGE.out]; rfl, by rw [HGC.out]; exact HCA.out⟩, HBF.out⟩
theorem uget_any (s : ByteArray) (w : World) (hs : s.size ≤ 100000) (hC : CodesOk w) :
    Calls Tryd.prog 10 #[.string s] w fun e w' => GotTo s.data.toList w e w' := by
  by_cases h : decE s.data.toList false = 0
  · by_cases hk : (ctlOf s.data.toList false).1 = 12
    · exact uget_yes s w hs hC h hk
    · exact uget_kind s w hs hC h hk
  · exact uget_err s w hs hC h
end Go.Proofs.YtadhiknmkiogjaaDoor
namespace Go.Proofs.YtadhiknmkiogjaaDoor
open Go.RowKit Go.Sort
set_option maxRecDepth 20000
/-- which entry is next: its number, or -1 -/
def nxtD (L : List Ent) : Int := if fstD (L.drop 2) < (L.drop 2).length then ((2 + fstD (L.drop 2) : Nat) : Int) else -1
/-- entry number i has it -/
def markD (L : List Ent) (i : Nat) : List Ent := match L[i]? with | some e => L.set i (e.1, e.2.1, true) | none => L
/-- a path when the next one has sent it -/
def sentL (L : List Ent) : List Ent := markD L (2 + fstD (L.drop 2))
theorem entsV_set : ∀ (L : List Ent) (i : Nat) (e : Ent), i < L.length → entsV (L.set i (e.1, e.2.1, true)) = (((entsV L).set (i * 3) (.string e.1)).set (i * 3 + 1) (.int .i64 e.2.1)).set (i * 3 + 2) (.bool true)
  | [], i, e, h => by simp at h
  | x :: L, 0, e, _ => rfl
  | x :: L, i + 1, e, h => by
    have ih := entsV_set L i e (by simpa using h)
    show entV x ++ entsV (L.set i _) = _
    rw [ih, show (i + 1) * 3 = i * 3 + 3 from by omega]
    show _ = (((entV x ++ entsV L).set (i * 3 + 3) _).set (i * 3 + 3 + 1) _).set (i * 3 + 3 + 2) _
    have hl : (entV x).length = 3 := rfl
    rw [List.set_append_right _ _ (by omega), List.set_append_right _ _ (by omega), List.set_append_right _ _ (by omega), hl, show i * 3 + 3 - 3 = i * 3 from by omega, show i * 3 + 3 + 1 - 3 = i * 3 + 1 from by omega, show i * 3 + 3 + 2 - 3 = i * 3 + 2 from by omega]
theorem set_same {α : Type} (l : List α) (i : Nat) (u : α) (h : l[i]? = some u) : l.set i u = l := by
  apply List.ext_getElem?
  intro j
  by_cases hj : i = j
  · subst hj
    rw [h, List.getElem?_set_self (List.getElem?_eq_some_iff.1 h).1]
  · rw [List.getElem?_set_ne hj]
/-- a mark is stored into a slice of the call's own -/
theorem OwnE.mark {T : TypeId} {w : World} {B g n c : Nat} {L : List Ent} (h : OwnE T w B (.slice (some ⟨g, 0, none⟩) n c) L) (i : Nat) (hi : i < L.length) :
    OwnE T (w.setCell ⟨g, i * 3 + 2, none⟩ (.bool true)) B (.slice (some ⟨g, 0, none⟩) n c) (markD L i) ∧ w.grownBy (w.setCell ⟨g, i * 3 + 2, none⟩ (.bool true)) (some g) := by
  have hn : n = L.length := by
    obtain ⟨a', c', hv, _⟩ := h.ents
    simp only [Value.slice.injEq] at hv
    exact hv.2.1
  subst hn
  obtain ⟨h1, h2⟩ := World.ownsRow.stored h (i * 3 + 2) (.bool true)
  refine ⟨?_, h2⟩
  have he : markD L i = L.set i (L[i].1, L[i].2.1, true) := by
    unfold markD
    rw [List.getElem?_eq_getElem hi]
  unfold OwnE
  rw [he, entsV_set _ _ L[i] hi, List.length_set]
  obtain ⟨k0, k1, _⟩ := entsV_at L i hi
  rw [set_same _ _ _ k0, set_same _ _ _ k1]
  exact h1
theorem mark_len (L : List Ent) (i : Nat) : (markD L i).length = L.length := by
  unfold markD
  split <;> simp
theorem OwnE.some_ {T : TypeId} {w : World} {B : Nat} {v : Value} {L : List Ent} (h : OwnE T w B v L) (h0 : 0 < L.length) : ∃ g c, v = .slice (some ⟨g, 0, none⟩) L.length c ∧ B ≤ g ∧ g < w.heap.size ∧ OwnE T w B (.slice (some ⟨g, 0, none⟩) L.length c) L := by
  rcases h.2 with ⟨_, h1⟩ | ⟨g, c, cur, hv, hb, _⟩
  · omega
  · subst hv
    exact ⟨g, c, rfl, hb, (h.ge rfl).2, h⟩
theorem rsent_after {w w1 w2 : World} {L : List Ent} {v' : Value} (hL : 0 < L.length) (hB : Below w.heap.size w w1) (hR : KeepAt w1 (w.heap.size + 1) 0 (.slice none 0 0)) (ho : OwnE 67 w2 w1.heap.size v' ([] ++ L))
    (hg : (w1.alloc (.cells #[] 67)).grownBy w2 (some w1.heap.size)) :
    ∃ g c, v' = .slice (some ⟨g, 0, none⟩) L.length c ∧ w1.heap.size ≤ g ∧ OwnE 67 w2 w1.heap.size (.slice (some ⟨g, 0, none⟩) L.length c) L ∧ Below w.heap.size w w2 ∧ KeepAt w2 (w.heap.size + 1) 0 (.slice none 0 0) ∧ w.heap.size + 1 ≠ g := by
  rw [List.nil_append] at ho
  have hs := hB.size
  have hl := hR.lt
  rcases ho.2 with ⟨_, h0⟩ | ⟨g, c, cur, hv, hb, _⟩
  · omega
  · subst hv
    have h2 : KeepAt (w1.alloc (.cells #[] 67)) (w.heap.size + 1) 0 (.slice none 0 0) := hR.alloc _
    refine ⟨g, c, rfl, hb, ho, (hB.alloc hs _).grown hg (Nat.le_trans hs (by simp)) (fun k hk => ?_), h2.block (hg.block _ h2.lt (fun e => ?_)) hg.size, by omega⟩
    · have := Option.some.inj hk; omega
    · have := Option.some.inj e; omega
end Go.Proofs.YtadhiknmkiogjaaDoor
namespace Go.Proofs.YtadhiknmkiogjaaDoor
open Go.RowKit Go.Sort
set_option maxRecDepth 20000
/-- a call is stored again into a slice of the call's own -/
theorem OwnE.again {T : TypeId} {w : World} {B g n c : Nat} {L : List Ent} (h : OwnE T w B (.slice (some ⟨g, 0, none⟩) n c) L) (i : Nat) (hi : i < L.length) :
    OwnE T ((w.setCell ⟨g, i * 3, none⟩ (.string L[i].1)).setCell ⟨g, i * 3 + 1, none⟩ (.int .i64 L[i].2.1)) B (.slice (some ⟨g, 0, none⟩) n c) L ∧ w.grownBy ((w.setCell ⟨g, i * 3, none⟩ (.string L[i].1)).setCell ⟨g, i * 3 + 1, none⟩ (.int .i64 L[i].2.1)) (some g) := by
  have hn : n = L.length := by
    obtain ⟨a', c', hv, _⟩ := h.ents
    simp only [Value.slice.injEq] at hv
    exact hv.2.1
  subst hn
  obtain ⟨k0, k1, _⟩ := entsV_at L i hi
  obtain ⟨h1, h2⟩ := World.ownsRow.stored h (i * 3) (.string L[i].1)
  rw [set_same _ _ _ k0] at h1
  obtain ⟨h3, h4⟩ := World.ownsRow.stored h1 (i * 3 + 1) (.int .i64 L[i].2.1)
  rw [set_same _ _ _ k1] at h3
  exact ⟨h3, grown_trans h2 h4⟩
/-- the digipeaters when the next one has sent it -/
def sentD (D : List Ent) : List Ent := markD D (fstD D)
/-- what lies in memory within Sent's loop -/
structure SentAt (w W : World) (g c : Nat) (v0 v1 v2 v3 v4 v5 v6 : Value) (L : List Ent) : Prop where
  own : OwnE 79 W (w.heap.size + 2) (.slice (some ⟨g, 0, none⟩) L.length c) L
  box : P7 W w.heap.size v0 v1 v2 v3 v4 v5 v6
  res : P7 W (w.heap.size + 1) (.string ⟨#[]⟩) (.int .i64 0) (.string ⟨#[]⟩) (.int .i64 0) (.bool false) (.bool false) (.slice none 0 0)
  bel : Below w.heap.size w W
theorem SentAt.below {w W W' : World} {g c : Nat} {v0 v1 v2 v3 v4 v5 v6 : Value} {L : List Ent} (h : SentAt w W g c v0 v1 v2 v3 v4 v5 v6 L) (hb : Below W.heap.size W W') : SentAt w W' g c v0 v1 v2 v3 v4 v5 v6 L :=
  ⟨h.own.below hb, h.box.below hb, h.res.below hb, h.bel.trans (hb.mono h.bel.size)⟩
theorem SentAt.grown {w W W' : World} {g c : Nat} {v0 v1 v2 v3 v4 v5 v6 : Value} {L : List Ent} (h : SentAt w W g c v0 v1 v2 v3 v4 v5 v6 L) (ho : OwnE 79 W' (w.heap.size + 2) (.slice (some ⟨g, 0, none⟩) L.length c) L) (hg : W.grownBy W' (some g)) : SentAt w W' g c v0 v1 v2 v3 v4 v5 v6 L := by
  have hge : w.heap.size + 2 ≤ g := (h.own.ge rfl).1
  have hb := h.box.k0.lt
  have hr := h.res.k0.lt
  exact ⟨ho, h.box.block (hg.block _ hb (fun e => by have e' : w.heap.size = g := (Option.some.inj e); omega)) hg.size, h.res.block (hg.block _ hr (fun e => by have e' : w.heap.size + 1 = g := (Option.some.inj e); omega)) hg.size, h.bel.grown hg h.bel.size (fun k hk => by have e' : g = k := Option.some.inj hk; omega)⟩
/-- behind the path's own cells being written anew -/
structure SentX (w X : World) (B : Nat) (v v0 v1 v2 v3 v4 v5 : Value) (D : List Ent) : Prop where
  own : OwnE 79 X B v D
  base : w.heap.size + 2 ≤ B
  box : P7 X w.heap.size v0 v1 v2 v3 v4 v5 v
  res : P7 X (w.heap.size + 1) (.string ⟨#[]⟩) (.int .i64 0) (.string ⟨#[]⟩) (.int .i64 0) (.bool false) (.bool false) (.slice none 0 0)
  bel : Below w.heap.size w X
theorem SentX.below {w X X' : World} {B : Nat} {v v0 v1 v2 v3 v4 v5 : Value} {D : List Ent} (h : SentX w X B v v0 v1 v2 v3 v4 v5 D) (hb : Below X.heap.size X X') : SentX w X' B v v0 v1 v2 v3 v4 v5 D :=
  ⟨h.own.below hb, h.base, h.box.below hb, h.res.below hb, h.bel.trans (hb.mono h.bel.size)⟩
theorem sent_put {w W w5 : World} {g c : Nat} {v v0 v1 v2 v3 v4 v5 v6 : Value} {L D : List Ent} (h : SentAt w W g c v0 v1 v2 v3 v4 v5 v6 L) (hb : Below W.heap.size W w5) (ho : OwnE 79 w5 W.heap.size v D) :
    SentX w (((((((w5.setCell ⟨w.heap.size, 0, none⟩ v0).setCell ⟨w.heap.size, 1, none⟩ v1).setCell ⟨w.heap.size, 2, none⟩ v2).setCell ⟨w.heap.size, 3, none⟩ v3).setCell ⟨w.heap.size, 4, none⟩ v4).setCell ⟨w.heap.size, 5, none⟩ v5).setCell ⟨w.heap.size, 6, none⟩ v) W.heap.size v v0 v1 v2 v3 v4 v5 D := by
  have h5 := h.below hb
  have hl := h.res.k0.lt
  refine ⟨own7 ho (by omega) _ _ _ _ _ _ _, by omega, stored7 v0 v1 v2 v3 v4 v5 v h5.box, ?_, set7_below h5.bel (Nat.le_refl _) _ _ _ _ _ _ _⟩
  exact ((((((h5.res.other _ (by omega)).other _ (by omega)).other _ (by omega)).other _ (by omega)).other _ (by omega)).other _ (by omega)).other _ (by omega)
theorem SentX.mark {w X : World} {B g n c : Nat} {v0 v1 v2 v3 v4 v5 : Value} {D : List Ent} (h : SentX w X B (.slice (some ⟨g, 0, none⟩) n c) v0 v1 v2 v3 v4 v5 D) (i : Nat) (hi : i < D.length) :
    SentX w (X.setCell ⟨g, i * 3 + 2, none⟩ (.bool true)) B (.slice (some ⟨g, 0, none⟩) n c) v0 v1 v2 v3 v4 v5 (markD D i) := by
  obtain ⟨h1, h2⟩ := h.own.mark i hi
  have hge : B ≤ g := (h.own.ge rfl).1
  have hb := h.base
  exact ⟨h1, hb, h.box.other _ (by omega), h.res.other _ (by omega), h.bel.setCell (p := ⟨g, i * 3 + 2, none⟩) (by show w.heap.size ≤ g; omega) _⟩
end Go.Proofs.YtadhiknmkiogjaaDoor
namespace Go.Proofs.YtadhiknmkiogjaaDoor
open Go.RowKit Go.Sort
set_option maxRecDepth 20000
end Go.Proofs.YtadhiknmkiogjaaDoor
