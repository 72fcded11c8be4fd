/-
The landed code's Get of paths.
Walk of the statement PathReads.
-/
import Derived.Test.YtadhiknmkiogjaaDoorMix05
import Derived.Test.YtadhiknmkiogjaaDoorPathBase
import Derived.Test.YtadhiknmkiogjaaDoorPathGetP
import Derived.Lib.SmallJoins
import Derived.Lib.ItoaNum
import Derived.Lib.QuietBelow
import Derived.Lib.IndexBytes
import Derived.IntWalk
import Derived.WalkKit
import Derived.Scope
import Derived.WalkMore
import Derived.Lib.LazyBuf
import Derived.BigRegion
import Derived.OrdersHeld
import Derived.Deep.RegionHeld
import Derived.BigQuiet
import Derived.Deep.QuietTactic
namespace Go.Proofs.YtadhiknmkiogjaaDoor
open Go.RowKit Go.Sort
set_option maxRecDepth 20000
/-- the code that holds the label -/
def scopeOf (f : Func) : Code := match f.body with
  | some (.seq _ (.scope c)) => c
  | _ => .skip
set_option maxRecDepth 100000 in
theorem arr61 (t : Array Value) (p0 p2 p5 p6 : Value) (h : t.size = 61) (h0 : t.getD 0 undef = p0) (h2 : t.getD 2 undef = p2) (h5 : t.getD 5 undef = p5) (h6 : t.getD 6 undef = p6) :
    ∃ u : Nat → Value, t = #[p0, u 1, p2, u 3, u 4, p5, p6, u 7, u 8, u 9, u 10, u 11, u 12, u 13, u 14, u 15, u 16, u 17, u 18, u 19, u 20, u 21, u 22, u 23, u 24, u 25, u 26, u 27, u 28, u 29, u 30, u 31, u 32, u 33, u 34, u 35, u 36, u 37, u 38, u 39, u 40, u 41, u 42, u 43, u 44, u 45, u 46, u 47, u 48, u 49, u 50, u 51, u 52, u 53, u 54, u 55, u 56, u 57, u 58, u 59, u 60] := by
  subst h0 h2 h5 h6
  refine ⟨fun i => t.getD i undef, Array.toList_inj.1 ?_⟩
  have e : t.toList = (List.range 61).map (fun i => t.getD i undef) := by
    apply List.ext_getElem
    · simp [h]
    · intro i h1 h2
      have hi : i < t.size := by simpa using h1
      simp [hi]
  rw [e]; rfl
theorem falls {P : Program} {Q : Exit → Act → World → Prop} {a : Act} {w : World} {c r rest : Code} {l : Nat} (hr : findLabel c l = some (.seq .skip r)) (h : r.wp P Q a w) (e : findLabel c l = some (.seq .skip rest)) : rest.wp P Q a w := by
  have := hr.symm.trans e
  simp only [Option.some.injEq, Code.seq.injEq, true_and] at this
  rw [← this]; exact h
/-- a path of nothing -/
def zeroPath : Value := .agg #[.string ⟨#[]⟩, .int .i64 0, .string ⟨#[]⟩, .int .i64 0, .bool false, .bool false, .slice none 0 0]
/-- what Get leaves -/
def PGetTo (w : World) (r : Nat × List Ent) (e : Ending) (w' : World) : Prop :=
  (r.1 ≠ 0 → e = .returned (.tuple #[zeroPath, .int .i64 0, .int .i64 (r.1 : Int)])) ∧
  (r.1 = 0 → ∃ x y D da dc, r.2 = x :: y :: D ∧ e = .returned (.tuple #[.agg #[.string x.1, .int .i64 x.2.1, .string y.1, .int .i64 y.2.1, .bool x.2.2, .bool y.2.2, .slice da D.length dc], .int .i64 ((7 * r.2.length : Nat) : Int), .int .i64 0]) ∧ EntsAt w' da dc D) ∧ Below w.heap.size w w'
/-- .. and its digipeaters are the call's own -/
def PGetO (w : World) (r : Nat × List Ent) (e : Ending) (w' : World) : Prop :=
  (r.1 ≠ 0 → e = .returned (.tuple #[zeroPath, .int .i64 0, .int .i64 (r.1 : Int)])) ∧
  (r.1 = 0 → ∃ x y D da dc, r.2 = x :: y :: D ∧ e = .returned (.tuple #[.agg #[.string x.1, .int .i64 x.2.1, .string y.1, .int .i64 y.2.1, .bool x.2.2, .bool y.2.2, .slice da D.length dc], .int .i64 ((7 * r.2.length : Nat) : Int), .int .i64 0]) ∧ OwnE 79 w' w.heap.size (.slice da D.length dc) D) ∧ Below w.heap.size w w'
/-- what lies in memory at the label -/
structure PgAt (w W : World) (tv : Value) (L : List Ent) : Prop where
  own : OwnE 79 W (w.heap.size + 1) tv L
  res : P7 W w.heap.size (.string ⟨#[]⟩) (.int .i64 0) (.string ⟨#[]⟩) (.int .i64 0) (.bool false) (.bool false) (.slice none 0 0)
  bel : Below w.heap.size w W
theorem PgAt.below {w W W' : World} {tv : Value} {L : List Ent} (h : PgAt w W tv L) (hb : Below W.heap.size W W') : PgAt w W' tv L := ⟨h.own.below hb, h.res.below hb, h.bel.trans (hb.mono h.bel.size)⟩
theorem PgAt.alloc {w W : World} {tv : Value} {L : List Ent} (h : PgAt w W tv L) (o : Obj) : PgAt w (W.alloc o) tv L := h.below ((Below.refl _ W).alloc (Nat.le_refl _) _)
theorem PgAt.grown {w W w1 : World} {tv v' : Value} {L L' : List Ent} (h : PgAt w W tv L) (h1 : OwnE 79 w1 (w.heap.size + 1) v' L') (hg : W.grownBy w1 tv.ownBlock) : PgAt w w1 v' L' :=
  ⟨h1, h.res.block (hg.block _ h.res.k0.lt (fun e => by have := (h.own.ge e.symm).1; omega)) hg.size, h.bel.grown hg h.bel.size (fun k hk => by have := (h.own.ge hk).1; omega)⟩
/-- what holds at the label -/
def GJ (w0 : World) (s : ByteArray) (G : Nat × List Ent) (l : Nat) (a : Act) (w : World) : Prop :=
  l = 0 ∧ ∃ (at_ k : Nat) (tv : Value) (L : List Ent), (a.tmps.size = 61 ∧ a.defers = [] ∧ a.tmps.getD 0 undef = .string s ∧ a.tmps.getD 2 undef = .pointer (some ⟨w0.heap.size, 0, none⟩) ∧ a.tmps.getD 5 undef = tv ∧ a.tmps.getD 6 undef = .int .i64 (at_ : Int)) ∧
    at_ + 7 * k = 70 ∧ L.length + k = 10 ∧ G = getP k L (s.data.toList.drop at_) ∧ PgAt w0 w tv L
def gmu (_ : Nat) (a : Act) (_ : World) : Nat := 71 - (intOf (a.tmps.getD 6 undef)).toNat
set_option maxRecDepth 100000 in
set_option maxHeartbeats 4000000 in
theorem pget_pass (w0 : World) (s : ByteArray) (hs : s.size ≤ 100000) (G : Nat × List Ent) : ∃ r, findLabel (scopeOf Tryd.f58) 0 = some (.seq .skip r) ∧ ∀ n a w, GJ w0 s G 0 a w → gmu 0 a w ≤ n →
    r.wp Tryd.prog (jumps (fun l' a' w' => GJ w0 s G l' a' w' ∧ gmu l' a' w' < n) (bodyPost Tryd.prog Tryd.f58 (PGetO w0 G))) a w := by
  refine ⟨_, by rfl, ?_⟩
  intro n a w ⟨_, at_, k, tv, l, ⟨hsz, hdf, h0, h2, h5, h6⟩, hk, hlk, hG, hA⟩ hn
  have hz : s.data.toList.length = s.size := by simp
  obtain ⟨tmps, defers⟩ := a
  simp only at hsz hdf h0 h2 h5 h6 hn
  obtain ⟨u, hu⟩ := arr61 tmps _ _ _ _ hsz h0 h2 h5 h6
  subst hdf
  unfold gmu at hn
  simp only [h6, intOf] at hn
  subst hu
  clear hsz h0 h2 h5 h6
  have HN := Lib.hid hn
  have HQ := Lib.hid hA
  have HG := Lib.hid (fun s W (h : s.size ≤ 300) => cget_ok s W h)
  obtain ⟨ta, tc, htv, -⟩ := hA.own.ents
  obtain ⟨⟨p0, q0, pl⟩, ⟨p1, q1, -⟩, ⟨p2, q2, -⟩, ⟨p3, q3, -⟩, ⟨p4, q4, -⟩, ⟨p5, q5, -⟩, ⟨p6, q6, -⟩⟩ := hA.res
  clear hA hn
  subst htv
  by_cases h7 : at_ + 7 ≤ s.size
  · have d7 : decide ((s.size : Int) - (at_ : Int) < 7) = false := decide_eq_false (by omega)
    obtain ⟨p, hp, hps, hsl⟩ := part7 s at_ h7
    have hdl : 7 ≤ (s.data.toList.drop at_).length := by rw [List.length_drop, hz]; omega
    have hgp := fun W => HG.out p W (by omega)
    have HBAD := Lib.hid (getP_bad k l _ hdl)
    have HFULL := Lib.hid (getP_full l _ hdl)
    have HNEXT := Lib.hid (fun k bl n mk => getP_next k l (s.data.toList.drop at_) hdl (bl := bl) (n := n) (mk := mk))
    have HLAST := Lib.hid (fun k bl n mk => getP_last k l (s.data.toList.drop at_) hdl (bl := bl) (n := n) (mk := mk))
    unfold getE at hgp
    have hpl : p.data.toList.length = 7 := by simpa using hps
    rw [hp] at hgp hpl
    rw [hpl] at hgp
    generalize hgg : getD7 ((s.data.toList.drop at_).take 7) = g at *
    clear hgg hpl hdl
    obtain ⟨ok, bl, n', mk, la⟩ := g
    dsimp only at hgp HBAD HFULL
    obtain ⟨B, hB⟩ : ∃ B : ByteArray, B = ⟨bl.toArray⟩ := ⟨_, rfl⟩
    rw [← hB] at hgp
    have e10 : ((l.length : Int) == 10) = decide (k = 0) := by rw [Bool.eq_iff_iff, beq_iff_eq, decide_eq_true_eq]; omega
    have HL0 := Lib.hid (show l.length + 1 ≤ 100000 from by omega)
    have HBB := Lib.hid hB
    clear hB hp hps hz
    have HGG := Lib.hid hG
    clear hG
    cases ok
    · have hGv : G = (2, []) := HGG.out.trans (HBAD.out rfl)
      have HGV := Lib.hid hGv
      have HGP := Lib.hid (show ∀ W, Calls Tryd.prog 66 #[.string p] W fun e w' => e = .returned (.tuple #[.agg #[.string B, .int .i64 (n' : Int)], .bool mk, .bool la, .int .i64 2]) ∧ Below W.heap.size W w' from hgp)
      have e2 : ((2 : Int) != 0) = true := rfl
      clear hGv hgp
      go_wp2_with (first
        | (go_at_call 66; (with_reducible refine (HGP.out _).mono ?_); rintro e w1 ⟨rfl, hb⟩; have HQ1 := Lib.hid ((HQ.out.below hb).alloc (.cells #[.string B, .int .i64 (n' : Int)] 23)); clear hb p0 q0 pl p1 q1 p2 q2 p3 q3 p4 q4 p5 q5 p6 q6; obtain ⟨⟨p0, q0, pl⟩, ⟨p1, q1, -⟩, ⟨p2, q2, -⟩, ⟨p3, q3, -⟩, ⟨p4, q4, -⟩, ⟨p5, q5, -⟩, ⟨p6, q6, -⟩⟩ := HQ1.out.res))
      have HF := HQ1
      have S7 := stored7 (m := w0.heap.size) (.string ⟨#[]⟩) (.int .i64 0) (.string ⟨#[]⟩) (.int .i64 0) (.bool false) (.bool false) (.slice none 0 0) HF.out.res
      have HBF := Lib.hid (set7_below (m := w0.heap.size) HF.out.bel (Nat.le_refl _) (.string ⟨#[]⟩) (.int .i64 0) (.string ⟨#[]⟩) (.int .i64 0) (.bool false) (.bool false) (.slice none 0 0))
      rw [jumps_ret]
      exact bodyPost_ret (v := .tuple #[zeroPath, .int .i64 0, .int .i64 2]) (by simp [results, Tryd.results58, go_sem, zeroPath, S7.k0.cell, S7.k1.cell, S7.k2.cell, S7.k3.cell, S7.k4.cell, S7.k5.cell, S7.k6.cell]) rfl (by rw [HGV.out]; exact ⟨fun _ => rfl, fun h => (by cases h), HBF.out⟩)
    · have HGP := Lib.hid (show ∀ W, Calls Tryd.prog 66 #[.string p] W fun e w' => e = .returned (.tuple #[.agg #[.string B, .int .i64 (n' : Int)], .bool mk, .bool la, .int .i64 0]) ∧ Below W.heap.size W w' from hgp)
      have e2 : ((0 : Int) != 0) = false := rfl
      clear hgp
      cases k with
      | zero =>
        have hGv : G = (11, []) := HGG.out.trans (HFULL.out rfl)
        have HGV := Lib.hid hGv
        have e10' : ((l.length : Int) == 10) = true := by rw [e10]; rfl
        clear hGv e10
        go_wp2_with (first
          | (go_at_call 66; (with_reducible refine (HGP.out _).mono ?_); rintro e w1 ⟨rfl, hb⟩; have HQ1 := Lib.hid ((HQ.out.below hb).alloc (.cells #[.string B, .int .i64 (n' : Int)] 23)); clear hb p0 q0 pl p1 q1 p2 q2 p3 q3 p4 q4 p5 q5 p6 q6; obtain ⟨⟨p0, q0, pl⟩, ⟨p1, q1, -⟩, ⟨p2, q2, -⟩, ⟨p3, q3, -⟩, ⟨p4, q4, -⟩, ⟨p5, q5, -⟩, ⟨p6, q6, -⟩⟩ := HQ1.out.res))
        have HF := HQ1
        have S7 := stored7 (m := w0.heap.size) (.string ⟨#[]⟩) (.int .i64 0) (.string ⟨#[]⟩) (.int .i64 0) (.bool false) (.bool false) (.slice none 0 0) HF.out.res
        have HBF := Lib.hid (set7_below (m := w0.heap.size) HF.out.bel (Nat.le_refl _) (.string ⟨#[]⟩) (.int .i64 0) (.string ⟨#[]⟩) (.int .i64 0) (.bool false) (.bool false) (.slice none 0 0))
        rw [jumps_ret]
        exact bodyPost_ret (v := .tuple #[zeroPath, .int .i64 0, .int .i64 11]) (by simp [results, Tryd.results58, go_sem, zeroPath, S7.k0.cell, S7.k1.cell, S7.k2.cell, S7.k3.cell, S7.k4.cell, S7.k5.cell, S7.k6.cell]) rfl (by rw [HGV.out]; exact ⟨fun _ => rfl, fun h => (by cases h), HBF.out⟩)
      | succ k =>
        have e10' : ((l.length : Int) == 10) = false := by rw [e10]; rfl
        obtain ⟨l', hl'⟩ : ∃ l' : List Ent, l' = l ++ [(B, (n' : Int), mk)] := ⟨_, rfl⟩
        have HLP := Lib.hid hl'
        have HLN := Lib.hid (show l'.length = l.length + 1 from by rw [hl']; simp)
        have hl1 : l'.length ≤ 10 := by have := HLN.out; omega
        clear hl' e10
        cases la
        · have hGv : G = getP k l' (s.data.toList.drop (at_ + 7)) := by
            rw [HGG.out, HNEXT.out k bl n' mk rfl, HLP.out, HBB.out, List.drop_drop]
          have HGV := Lib.hid hGv
          clear hGv
          go_wp2_with (first
            | (go_at_call 66; (with_reducible refine (HGP.out _).mono ?_); rintro e w1 ⟨rfl, hb⟩; have HQ1 := Lib.hid ((HQ.out.below hb).alloc (.cells #[.string B, .int .i64 (n' : Int)] 23)); clear hb p0 q0 pl p1 q1 p2 q2 p3 q3 p4 q4 p5 q5 p6 q6; obtain ⟨⟨p0, q0, pl⟩, ⟨p1, q1, -⟩, ⟨p2, q2, -⟩, ⟨p3, q3, -⟩, ⟨p4, q4, -⟩, ⟨p5, q5, -⟩, ⟨p6, q6, -⟩⟩ := HQ1.out.res)
            | (at_builtin; have HQ2 := Lib.hid (HQ1.out.alloc (.cells #[.string B, .int .i64 (n' : Int), .bool mk] 79)); have HN2 := Lib.hid (EntsAt.new1 (w1.alloc (.cells #[.string B, .int .i64 (n' : Int)] 23)) (w1.heap.size + 1) (by simp) B (n' : Int) mk 79); refine wpList_append_ents infoD Tryd.underlying56 _ rfl (.tmp 37) (.tmp 41) rfl (w0.heap.size + 1) _ l [(B, (n' : Int), mk)] rfl HQ2.out.own _ _ rfl HN2.out HL0.out HQ2.out.res.k0.lt ?_; intro v' w2 hown hgr hov; rw [← HLP.out] at hown; obtain ⟨va, vc, hvv, -⟩ := hown.ents; subst hvv; have HQ3 := Lib.hid (HQ2.out.grown hown hgr); clear hown hgr hov HQ2 HN2 HQ1 p0 q0 pl p1 q1 p2 q2 p3 q3 p4 q4 p5 q5 p6 q6; obtain ⟨⟨p0, q0, pl⟩, ⟨p1, q1, -⟩, ⟨p2, q2, -⟩, ⟨p3, q3, -⟩, ⟨p4, q4, -⟩, ⟨p5, q5, -⟩, ⟨p6, q6, -⟩⟩ := HQ3.out.res))
          go_step3
          exact ⟨⟨rfl, at_ + 7, k, _, l', ⟨rfl, rfl, rfl, rfl, rfl, by simp⟩, by omega, by have := HLN.out; omega, HGV.out, HQ3.out⟩, by
            have := HN.out
            show 71 - (intOf (.int .i64 ((at_ : Int) + 7))).toNat < n
            simp only [intOf]
            omega⟩
        · have hGv := HGG.out.trans (HLAST.out k bl n' mk rfl)
          rw [← HBB.out, ← HLP.out] at hGv
          by_cases h0 : l.length = 0
          · rw [if_pos h0] at hGv
            have HGV := Lib.hid hGv
            have e1 : decide ((l'.length : Int) < 2) = true := decide_eq_true (by have := HLN.out; omega)
            clear hGv h0 hlk
            go_wp2_with (first
              | (go_at_call 66; (with_reducible refine (HGP.out _).mono ?_); rintro e w1 ⟨rfl, hb⟩; have HQ1 := Lib.hid ((HQ.out.below hb).alloc (.cells #[.string B, .int .i64 (n' : Int)] 23)); clear hb p0 q0 pl p1 q1 p2 q2 p3 q3 p4 q4 p5 q5 p6 q6; obtain ⟨⟨p0, q0, pl⟩, ⟨p1, q1, -⟩, ⟨p2, q2, -⟩, ⟨p3, q3, -⟩, ⟨p4, q4, -⟩, ⟨p5, q5, -⟩, ⟨p6, q6, -⟩⟩ := HQ1.out.res)
              | (at_builtin; have HQ2 := Lib.hid (HQ1.out.alloc (.cells #[.string B, .int .i64 (n' : Int), .bool mk] 79)); have HN2 := Lib.hid (EntsAt.new1 (w1.alloc (.cells #[.string B, .int .i64 (n' : Int)] 23)) (w1.heap.size + 1) (by simp) B (n' : Int) mk 79); refine wpList_append_ents infoD Tryd.underlying56 _ rfl (.tmp 37) (.tmp 41) rfl (w0.heap.size + 1) _ l [(B, (n' : Int), mk)] rfl HQ2.out.own _ _ rfl HN2.out HL0.out HQ2.out.res.k0.lt ?_; intro v' w2 hown hgr hov; rw [← HLP.out] at hown; obtain ⟨va, vc, hvv, -⟩ := hown.ents; subst hvv; have HQ3 := Lib.hid (HQ2.out.grown hown hgr); clear hown hgr hov HQ2 HN2 HQ1 p0 q0 pl p1 q1 p2 q2 p3 q3 p4 q4 p5 q5 p6 q6; obtain ⟨⟨p0, q0, pl⟩, ⟨p1, q1, -⟩, ⟨p2, q2, -⟩, ⟨p3, q3, -⟩, ⟨p4, q4, -⟩, ⟨p5, q5, -⟩, ⟨p6, q6, -⟩⟩ := HQ3.out.res))
            have HF := HQ3
            have S7 := stored7 (m := w0.heap.size) (.string ⟨#[]⟩) (.int .i64 0) (.string ⟨#[]⟩) (.int .i64 0) (.bool false) (.bool false) (.slice none 0 0) HF.out.res
            have HBF := Lib.hid (set7_below (m := w0.heap.size) HF.out.bel (Nat.le_refl _) (.string ⟨#[]⟩) (.int .i64 0) (.string ⟨#[]⟩) (.int .i64 0) (.bool false) (.bool false) (.slice none 0 0))
            rw [jumps_ret]
            exact bodyPost_ret (v := .tuple #[zeroPath, .int .i64 0, .int .i64 2]) (by simp [results, Tryd.results58, go_sem, zeroPath, S7.k0.cell, S7.k1.cell, S7.k2.cell, S7.k3.cell, S7.k4.cell, S7.k5.cell, S7.k6.cell]) rfl (by rw [HGV.out]; exact ⟨fun _ => rfl, fun h => (by cases h), HBF.out⟩)
          · rw [if_neg h0] at hGv
            have e1 : decide ((l'.length : Int) < 2) = false := decide_eq_false (by have := HLN.out; omega)
            obtain ⟨x, y, D, hxy⟩ : ∃ x y D, l' = x :: y :: D := by
              have := HLN.out
              match l', this with
              | [], h =>
                have h' : 0 = l.length + 1 := h
                omega
              | [x], h =>
                have h' : 1 = l.length + 1 := h
                omega
              | x :: y :: D, _ => exact ⟨x, y, D, rfl⟩
            have HXY := Lib.hid hxy
            have hdrop : l'.drop 2 = D := by rw [hxy]; rfl
            have hDl : D.length ≤ 8 := by have h : l'.length = D.length + 2 := by rw [hxy]; simp
                                          omega
            rw [hdrop] at hGv
            have HSL := Lib.hid (show ∀ va vc W, EntsAt W va vc l' → ∃ a2, (∀ W, (Instr.slice 56 (.slice va l'.length vc) (some (.int .i64 2)) none none).run Tryd.prog W = .ok (.slice a2 D.length (vc - 2)) W) ∧ EntsAt W a2 (vc - 2) D from fun va vc W h => by
              obtain ⟨a2, h1, h2⟩ := slice_from Tryd.underlying56 sizeD h 2 (by have := HLN.out; omega)
              rw [hdrop] at h1 h2
              exact ⟨a2, h1, h2⟩)
            have HORD := Lib.hid (fun a c W (h : EntsAt W a c D) => inOrder_any a c D W (by omega) h)
            have HOF := Lib.hid (show ∀ va vc W, EntsAt W va vc l' → Calls Tryd.prog 67 #[.slice va l'.length vc] W fun e w' => ∃ v, e = .returned (.agg #[.string x.1, .int .i64 x.2.1, .string y.1, .int .i64 y.2.1, .bool x.2.2, .bool y.2.2, v]) ∧ OwnE 79 w' W.heap.size v D ∧ Below W.heap.size W w' from fun va vc W h => by
              rw [hxy] at h ⊢
              exact of_any x.1 y.1 x.2.1 y.2.1 x.2.2 y.2.2 va vc D W (by omega) h)
            clear hxy hdrop h0
            generalize ordD D = O at *
            cases O
            · have HGV := Lib.hid (show G = (11, []) from hGv)
              clear hGv
              go_wp2_with (first
                | (go_at_call 48; (with_reducible refine (HORD.out a2 (vc - 2) _ hE2).mono ?_); rintro e w3 ⟨rfl, hb⟩; have HQ4 := Lib.hid (HQ3.out.below hb); clear hb hE2 p0 q0 pl p1 q1 p2 q2 p3 q3 p4 q4 p5 q5 p6 q6; obtain ⟨⟨p0, q0, pl⟩, ⟨p1, q1, -⟩, ⟨p2, q2, -⟩, ⟨p3, q3, -⟩, ⟨p4, q4, -⟩, ⟨p5, q5, -⟩, ⟨p6, q6, -⟩⟩ := HQ4.out.res)
                | (go_at_call 66; (with_reducible refine (HGP.out _).mono ?_); rintro e w1 ⟨rfl, hb⟩; have HQ1 := Lib.hid ((HQ.out.below hb).alloc (.cells #[.string B, .int .i64 (n' : Int)] 23)); clear hb p0 q0 pl p1 q1 p2 q2 p3 q3 p4 q4 p5 q5 p6 q6; obtain ⟨⟨p0, q0, pl⟩, ⟨p1, q1, -⟩, ⟨p2, q2, -⟩, ⟨p3, q3, -⟩, ⟨p4, q4, -⟩, ⟨p5, q5, -⟩, ⟨p6, q6, -⟩⟩ := HQ1.out.res)
                | (at_builtin; have HQ2 := Lib.hid (HQ1.out.alloc (.cells #[.string B, .int .i64 (n' : Int), .bool mk] 79)); have HN2 := Lib.hid (EntsAt.new1 (w1.alloc (.cells #[.string B, .int .i64 (n' : Int)] 23)) (w1.heap.size + 1) (by simp) B (n' : Int) mk 79); refine wpList_append_ents infoD Tryd.underlying56 _ rfl (.tmp 37) (.tmp 41) rfl (w0.heap.size + 1) _ l [(B, (n' : Int), mk)] rfl HQ2.out.own _ _ rfl HN2.out HL0.out HQ2.out.res.k0.lt ?_; intro v' w2 hown hgr hov; rw [← HLP.out] at hown; obtain ⟨va, vc, hvv, -⟩ := hown.ents; subst hvv; have HQ3 := Lib.hid (HQ2.out.grown hown hgr); clear hown hgr hov HQ2 HN2 HQ1 p0 q0 pl p1 q1 p2 q2 p3 q3 p4 q4 p5 q5 p6 q6; obtain ⟨⟨p0, q0, pl⟩, ⟨p1, q1, -⟩, ⟨p2, q2, -⟩, ⟨p3, q3, -⟩, ⟨p4, q4, -⟩, ⟨p5, q5, -⟩, ⟨p6, q6, -⟩⟩ := HQ3.out.res; obtain ⟨a2, hsl2, hE2⟩ := HSL.out va vc _ (ents_of_own HQ3.out.own)))
              have HF := HQ4
              have S7 := stored7 (m := w0.heap.size) (.string ⟨#[]⟩) (.int .i64 0) (.string ⟨#[]⟩) (.int .i64 0) (.bool false) (.bool false) (.slice none 0 0) HF.out.res
              have HBF := Lib.hid (set7_below (m := w0.heap.size) HF.out.bel (Nat.le_refl _) (.string ⟨#[]⟩) (.int .i64 0) (.string ⟨#[]⟩) (.int .i64 0) (.bool false) (.bool false) (.slice none 0 0))
              rw [jumps_ret]
              exact bodyPost_ret (v := .tuple #[zeroPath, .int .i64 0, .int .i64 11]) (by simp [results, Tryd.results58, go_sem, zeroPath, S7.k0.cell, S7.k1.cell, S7.k2.cell, S7.k3.cell, S7.k4.cell, S7.k5.cell, S7.k6.cell]) rfl (by rw [HGV.out]; exact ⟨fun _ => rfl, fun h => (by cases h), HBF.out⟩)
            · have HGV := Lib.hid (show G = (0, l') from hGv)
              clear hGv
              have HLY := Lib.hid (show ((7 * l'.length : Nat) : Int) = (at_ : Int) + 7 from by have := HLN.out; omega)
              go_wp2_with (first
                | (go_at_call 48; (with_reducible refine (HORD.out a2 (vc - 2) _ hE2).mono ?_); rintro e w3 ⟨rfl, hb⟩; have HQ4 := Lib.hid (HQ3.out.below hb); clear hb hE2)
                | (go_at_call 67; (with_reducible refine (HOF.out va vc _ (ents_of_own HQ4.out.own)).mono ?_); rintro e w4 ⟨v, rfl, hv, hb⟩; obtain ⟨da, dc, hvv, -⟩ := hv.ents; subst hvv; have HQ5 := Lib.hid (HQ4.out.below hb); have HV := Lib.hid hv; have HZ4 := Lib.hid HQ4.out.res.k0.lt; clear hb hv p0 q0 pl p1 q1 p2 q2 p3 q3 p4 q4 p5 q5 p6 q6; obtain ⟨⟨p0, q0, pl⟩, ⟨p1, q1, -⟩, ⟨p2, q2, -⟩, ⟨p3, q3, -⟩, ⟨p4, q4, -⟩, ⟨p5, q5, -⟩, ⟨p6, q6, -⟩⟩ := HQ5.out.res)
                | (go_at_call 66; (with_reducible refine (HGP.out _).mono ?_); rintro e w1 ⟨rfl, hb⟩; have HQ1 := Lib.hid ((HQ.out.below hb).alloc (.cells #[.string B, .int .i64 (n' : Int)] 23)); clear hb p0 q0 pl p1 q1 p2 q2 p3 q3 p4 q4 p5 q5 p6 q6; obtain ⟨⟨p0, q0, pl⟩, ⟨p1, q1, -⟩, ⟨p2, q2, -⟩, ⟨p3, q3, -⟩, ⟨p4, q4, -⟩, ⟨p5, q5, -⟩, ⟨p6, q6, -⟩⟩ := HQ1.out.res)
                | (at_builtin; have HQ2 := Lib.hid (HQ1.out.alloc (.cells #[.string B, .int .i64 (n' : Int), .bool mk] 79)); have HN2 := Lib.hid (EntsAt.new1 (w1.alloc (.cells #[.string B, .int .i64 (n' : Int)] 23)) (w1.heap.size + 1) (by simp) B (n' : Int) mk 79); refine wpList_append_ents infoD Tryd.underlying56 _ rfl (.tmp 37) (.tmp 41) rfl (w0.heap.size + 1) _ l [(B, (n' : Int), mk)] rfl HQ2.out.own _ _ rfl HN2.out HL0.out HQ2.out.res.k0.lt ?_; intro v' w2 hown hgr hov; rw [← HLP.out] at hown; obtain ⟨va, vc, hvv, -⟩ := hown.ents; subst hvv; have HQ3 := Lib.hid (HQ2.out.grown hown hgr); clear hown hgr hov HQ2 HN2 HQ1 p0 q0 pl p1 q1 p2 q2 p3 q3 p4 q4 p5 q5 p6 q6; obtain ⟨⟨p0, q0, pl⟩, ⟨p1, q1, -⟩, ⟨p2, q2, -⟩, ⟨p3, q3, -⟩, ⟨p4, q4, -⟩, ⟨p5, q5, -⟩, ⟨p6, q6, -⟩⟩ := HQ3.out.res; obtain ⟨a2, hsl2, hE2⟩ := HSL.out va vc _ (ents_of_own HQ3.out.own)))
              have S7 := stored7 (m := w0.heap.size) (.string x.1) (.int .i64 x.2.1) (.string y.1) (.int .i64 y.2.1) (.bool x.2.2) (.bool y.2.2) (.slice da D.length dc) HQ5.out.res
              have HOW := Lib.hid (own7 (m := w0.heap.size) HV.out HZ4.out (.string x.1) (.int .i64 x.2.1) (.string y.1) (.int .i64 y.2.1) (.bool x.2.2) (.bool y.2.2) (.slice da D.length dc))
              have HBF := Lib.hid (set7_below (m := w0.heap.size) HQ5.out.bel (Nat.le_refl _) (.string x.1) (.int .i64 x.2.1) (.string y.1) (.int .i64 y.2.1) (.bool x.2.2) (.bool y.2.2) (.slice da D.length dc))
              rw [jumps_ret]
              exact bodyPost_ret (v := .tuple #[.agg #[.string x.1, .int .i64 x.2.1, .string y.1, .int .i64 y.2.1, .bool x.2.2, .bool y.2.2, .slice da D.length dc], .int .i64 ((at_ : Int) + 7), .int .i64 0]) (by simp [results, Tryd.results58, go_sem, S7.k0.cell, S7.k1.cell, S7.k2.cell, S7.k3.cell, S7.k4.cell, S7.k5.cell, S7.k6.cell]) rfl (by
                rw [HGV.out]
                exact ⟨fun h => absurd rfl h, fun _ => ⟨x, y, D, da, dc, HXY.out, by rw [HLY.out], HOW.out.base (Nat.le_of_lt HZ4.out)⟩, HBF.out⟩)
  · have d7 : decide ((s.size : Int) - (at_ : Int) < 7) = true := decide_eq_true (by omega)
    have HGV := Lib.hid (show G = (4, []) from hG.trans (getP_short k l _ (by rw [List.length_drop, hz]; omega)))
    clear hG
    go_wp2
    have HF := HQ
    have S7 := stored7 (m := w0.heap.size) (.string ⟨#[]⟩) (.int .i64 0) (.string ⟨#[]⟩) (.int .i64 0) (.bool false) (.bool false) (.slice none 0 0) HF.out.res
    have HBF := Lib.hid (set7_below (m := w0.heap.size) HF.out.bel (Nat.le_refl _) (.string ⟨#[]⟩) (.int .i64 0) (.string ⟨#[]⟩) (.int .i64 0) (.bool false) (.bool false) (.slice none 0 0))
    rw [jumps_ret]
    exact bodyPost_ret (v := .tuple #[zeroPath, .int .i64 0, .int .i64 4]) (by simp [results, Tryd.results58, go_sem, zeroPath, S7.k0.cell, S7.k1.cell, S7.k2.cell, S7.k3.cell, S7.k4.cell, S7.k5.cell, S7.k6.cell]) rfl (by rw [HGV.out]; exact ⟨fun _ => rfl, fun h => (by cases h), HBF.out⟩)
set_option maxRecDepth 100000 in
set_option maxHeartbeats 4000000 in
theorem pget_own (s : ByteArray) (w : World) (hs : s.size ≤ 100000) :
    Calls Tryd.prog 58 #[.string s] w fun e w' => PGetO w (getP 10 [] s.data.toList) e w' := by
  obtain ⟨G, hG⟩ : ∃ G, G = getP 10 [] s.data.toList := ⟨_, rfl⟩
  rw [← hG]
  have HP := Lib.hid (pget_pass w s hs G)
  have HA := Lib.hid (show PgAt w (w.alloc (.cells #[.string ⟨#[]⟩, .int .i64 0, .string ⟨#[]⟩, .int .i64 0, .bool false, .bool false, .slice none 0 0] 58)) (.slice none 0 0) [] from ⟨OwnE.nil _ _ _, P7.new w _ rfl _ _ _ _ _ _ _ _, (Below.refl _ w).alloc (Nat.le_refl _) _⟩)
  have HG := Lib.hid hG
  clear hG
  go_enter Tryd.func58, Tryd.ntmps58
  go_wp2
  refine scope_places (fun l a' w' => GJ w s G l a' w' ∧ gmu l a' w' ≤ 71) gmu ?_ ?_
  · go_wp2
    go_step3
    rename_i hK
    refine hK _ _ ?_
    clear hK
    obtain ⟨r, hr, hq⟩ := HP.out
    refine falls hr (wp_mono (hq 71 _ _ ⟨rfl, 0, 10, _, [], ⟨rfl, rfl, rfl, rfl, rfl, rfl⟩, rfl, rfl, HG.out, HA.out⟩ ?_) ?_) (by rfl)
    · show 71 - _ ≤ 71
      exact Nat.sub_le _ _
    · intro e a' w' hq
      cases e with
      | goto l' => exact ⟨hq.1, Nat.le_of_lt hq.2⟩
      | _ => exact hq
  · intro l a' w' ⟨hj, hn⟩
    obtain ⟨rfl, _⟩ := id hj
    obtain ⟨r, hr, hq⟩ := HP.out
    refine ⟨_, hr, wp_seq (wp_skip ?_)⟩
    refine wp_mono (hq (gmu 0 a' w') a' w' hj (Nat.le_refl _)) ?_
    intro e a'' w'' hq2
    cases e with
    | goto l' => exact ⟨⟨hq2.1, by have := hq2.2; omega⟩, hq2.2⟩
    | _ => exact hq2
theorem pget_any (s : ByteArray) (w : World) (hs : s.size ≤ 100000) :
    Calls Tryd.prog 58 #[.string s] w fun e w' => PGetTo w (getP 10 [] s.data.toList) e w' :=
  (pget_own s w hs).mono fun e w' h => ⟨h.1, fun h0 => by
    obtain ⟨x, y, D, da, dc, h1, h2, h3⟩ := h.2.1 h0
    exact ⟨x, y, D, da, dc, h1, h2, ents_of_own h3⟩, h.2.2⟩
end Go.Proofs.YtadhiknmkiogjaaDoor
namespace Go.Proofs.YtadhiknmkiogjaaDoor
open Go.RowKit Go.Sort
set_option maxRecDepth 20000
theorem getP_yes : ∀ (k : Nat) (l : List Ent) (s : List UInt8), (getP k l s).1 ≤ 11
  | 0, l, s => by unfold getP; split; · simp
                  · split <;> simp
  | k + 1, l, s => by
    unfold getP
    split
    · simp
    · split
      · split
        · split
          · simp
          · split <;> simp
        · exact getP_yes k _ _
      · simp
theorem getP_none : ∀ (k : Nat) (l : List Ent) (s : List UInt8), (getP k l s).1 ≠ 0 → (getP k l s).2 = []
  | 0, l, s, h => by unfold getP; split; · rfl
                     · split <;> rfl
  | k + 1, l, s, h => by
    unfold getP at h ⊢
    split
    · rfl
    · rename_i h7
      rw [if_neg h7] at h
      split
      · rename_i hg
        rw [if_pos hg] at h
        split
        · rename_i hla
          rw [if_pos hla] at h
          split
          · rfl
          · rename_i hl
            rw [if_neg hl] at h
            split
            · rename_i ho
              rw [if_pos ho] at h
              exact absurd rfl h
            · rfl
        · rename_i hla
          rw [if_neg hla] at h
          exact getP_none k _ _ h
      · rfl
end Go.Proofs.YtadhiknmkiogjaaDoor
