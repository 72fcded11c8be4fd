/-
The landed code's Get of paths.
The landed list's small parts: New, Clear, a station in new memory, by whom a frame came; what a list that isn't there answers.
A law for a region that draws its order: one fact for each operation, said of what it yields and of memory, that stays behind every other one; each operation is run once, whatever came up ahead of it.
The law of facts for the first operations of a region that draws its order, where all others wait for them: what is left is walked behind it.
-/
import Derived.Test.YtmgfpnemamedoaaDoorMix04
import Derived.Test.YtmgfpnemamedoaaDoorMix05
import Derived.Lib.SmallJoins
import Derived.Lib.ItoaNum
import Derived.Lib.QuietBelow
import Derived.Lib.IndexBytes
import Derived.IntWalk
import Derived.Test.YtmgfpnemamedoaaDoorMix03
import Derived.Test.YtmgfpnemamedoaaDoorMix00
import Derived.Deep.RegionHeld
namespace Go.Proofs.YtmgfpnemamedoaaDoor
open Go.RowKit Go.Sort
set_option maxRecDepth 20000
/-- the code that holds the label -/
def scopeOf (f : Func) : Code := match f.body with
  | some (.seq _ (.scope c)) => c
  | _ => .skip
set_option maxRecDepth 100000 in
theorem arr61 (t : Array Value) (p0 p2 p5 p6 : Value) (h : t.size = 61) (h0 : t.getD 0 undef = p0) (h2 : t.getD 2 undef = p2) (h5 : t.getD 5 undef = p5) (h6 : t.getD 6 undef = p6) :
    ∃ u : Nat → Value, t = #[p0, u 1, p2, u 3, u 4, p5, p6, u 7, u 8, u 9, u 10, u 11, u 12, u 13, u 14, u 15, u 16, u 17, u 18, u 19, u 20, u 21, u 22, u 23, u 24, u 25, u 26, u 27, u 28, u 29, u 30, u 31, u 32, u 33, u 34, u 35, u 36, u 37, u 38, u 39, u 40, u 41, u 42, u 43, u 44, u 45, u 46, u 47, u 48, u 49, u 50, u 51, u 52, u 53, u 54, u 55, u 56, u 57, u 58, u 59, u 60] := by
  subst h0 h2 h5 h6
  refine ⟨fun i => t.getD i undef, Array.toList_inj.1 ?_⟩
  have e : t.toList = (List.range 61).map (fun i => t.getD i undef) := by
    apply List.ext_getElem
    · simp [h]
    · intro i h1 h2
      have hi : i < t.size := by simpa using h1
      simp [hi]
  rw [e]; rfl
theorem falls {P : Program} {Q : Exit → Act → World → Prop} {a : Act} {w : World} {c r rest : Code} {l : Nat} (hr : findLabel c l = some (.seq .skip r)) (h : r.wp P Q a w) (e : findLabel c l = some (.seq .skip rest)) : rest.wp P Q a w := by
  have := hr.symm.trans e
  simp only [Option.some.injEq, Code.seq.injEq, true_and] at this
  rw [← this]; exact h
/-- a path of nothing -/
def zeroPath : Value := .agg #[.string ⟨#[]⟩, .int .i64 0, .string ⟨#[]⟩, .int .i64 0, .bool false, .bool false, .slice none 0 0]
/-- what Get leaves -/
def PGetTo (w : World) (r : Nat × List Ent) (e : Ending) (w' : World) : Prop :=
  (r.1 ≠ 0 → e = .returned (.tuple #[zeroPath, .int .i64 0, .int .i64 (r.1 : Int)])) ∧
  (r.1 = 0 → ∃ x y D da dc, r.2 = x :: y :: D ∧ e = .returned (.tuple #[.agg #[.string x.1, .int .i64 x.2.1, .string y.1, .int .i64 y.2.1, .bool x.2.2, .bool y.2.2, .slice da D.length dc], .int .i64 ((7 * r.2.length : Nat) : Int), .int .i64 0]) ∧ EntsAt w' da dc D) ∧ Below w.heap.size w w'
/-- .. and its digipeaters are the call's own -/
def PGetO (w : World) (r : Nat × List Ent) (e : Ending) (w' : World) : Prop :=
  (r.1 ≠ 0 → e = .returned (.tuple #[zeroPath, .int .i64 0, .int .i64 (r.1 : Int)])) ∧
  (r.1 = 0 → ∃ x y D da dc, r.2 = x :: y :: D ∧ e = .returned (.tuple #[.agg #[.string x.1, .int .i64 x.2.1, .string y.1, .int .i64 y.2.1, .bool x.2.2, .bool y.2.2, .slice da D.length dc], .int .i64 ((7 * r.2.length : Nat) : Int), .int .i64 0]) ∧ OwnE 55 w' w.heap.size (.slice da D.length dc) D) ∧ Below w.heap.size w w'
/-- what lies in memory at the label -/
structure PgAt (w W : World) (tv : Value) (L : List Ent) : Prop where
  own : OwnE 55 W (w.heap.size + 1) tv L
  res : P7 W w.heap.size (.string ⟨#[]⟩) (.int .i64 0) (.string ⟨#[]⟩) (.int .i64 0) (.bool false) (.bool false) (.slice none 0 0)
  bel : Below w.heap.size w W
theorem PgAt.below {w W W' : World} {tv : Value} {L : List Ent} (h : PgAt w W tv L) (hb : Below W.heap.size W W') : PgAt w W' tv L := ⟨h.own.below hb, h.res.below hb, h.bel.trans (hb.mono h.bel.size)⟩
theorem PgAt.alloc {w W : World} {tv : Value} {L : List Ent} (h : PgAt w W tv L) (o : Obj) : PgAt w (W.alloc o) tv L := h.below ((Below.refl _ W).alloc (Nat.le_refl _) _)
theorem PgAt.grown {w W w1 : World} {tv v' : Value} {L L' : List Ent} (h : PgAt w W tv L) (h1 : OwnE 55 w1 (w.heap.size + 1) v' L') (hg : W.grownBy w1 tv.ownBlock) : PgAt w w1 v' L' :=
  ⟨h1, h.res.block (hg.block _ h.res.k0.lt (fun e => by have := (h.own.ge e.symm).1; omega)) hg.size, h.bel.grown hg h.bel.size (fun k hk => by have := (h.own.ge hk).1; omega)⟩
/-- what holds at the label -/
def GJ (w0 : World) (s : ByteArray) (G : Nat × List Ent) (l : Nat) (a : Act) (w : World) : Prop :=
  l = 0 ∧ ∃ (at_ k : Nat) (tv : Value) (L : List Ent), (a.tmps.size = 61 ∧ a.defers = [] ∧ a.tmps.getD 0 undef = .string s ∧ a.tmps.getD 2 undef = .pointer (some ⟨w0.heap.size, 0, none⟩) ∧ a.tmps.getD 5 undef = tv ∧ a.tmps.getD 6 undef = .int .i64 (at_ : Int)) ∧
    at_ + 7 * k = 70 ∧ L.length + k = 10 ∧ G = getP k L (s.data.toList.drop at_) ∧ PgAt w0 w tv L
def gmu (_ : Nat) (a : Act) (_ : World) : Nat := 71 - (intOf (a.tmps.getD 6 undef)).toNat
set_option maxRecDepth 100000 in
set_option maxHeartbeats 4000000 in
theorem pget_pass (w0 : World) (s : ByteArray) (hs : s.size ≤ 100000) (G : Nat × List Ent) : ∃ r, findLabel (scopeOf Tryd.f20) 0 = some (.seq .skip r) ∧ ∀ n a w, GJ w0 s G 0 a w → gmu 0 a w ≤ n →
    r.wp Tryd.prog (jumps (fun l' a' w' => GJ w0 s G l' a' w' ∧ gmu l' a' w' < n) (bodyPost Tryd.prog Tryd.f20 (PGetO w0 G))) a w := by
  refine ⟨_, by rfl, ?_⟩
  intro n a w ⟨_, at_, k, tv, l, ⟨hsz, hdf, h0, h2, h5, h6⟩, hk, hlk, hG, hA⟩ hn
  have hz : s.data.toList.length = s.size := by simp
  obtain ⟨tmps, defers⟩ := a
  simp only at hsz hdf h0 h2 h5 h6 hn
  obtain ⟨u, hu⟩ := arr61 tmps _ _ _ _ hsz h0 h2 h5 h6
  subst hdf
  unfold gmu at hn
  simp only [h6, intOf] at hn
  subst hu
  clear hsz h0 h2 h5 h6
  have HN := Lib.hid hn
  have HQ := Lib.hid hA
  have HG := Lib.hid (fun s W (h : s.size ≤ 300) => cget_ok s W h)
  obtain ⟨ta, tc, htv, -⟩ := hA.own.ents
  obtain ⟨⟨p0, q0, pl⟩, ⟨p1, q1, -⟩, ⟨p2, q2, -⟩, ⟨p3, q3, -⟩, ⟨p4, q4, -⟩, ⟨p5, q5, -⟩, ⟨p6, q6, -⟩⟩ := hA.res
  clear hA hn
  subst htv
  by_cases h7 : at_ + 7 ≤ s.size
  · have d7 : decide ((s.size : Int) - (at_ : Int) < 7) = false := decide_eq_false (by omega)
    obtain ⟨p, hp, hps, hsl⟩ := part7 s at_ h7
    have hdl : 7 ≤ (s.data.toList.drop at_).length := by rw [List.length_drop, hz]; omega
    have hgp := fun W => HG.out p W (by omega)
    have HBAD := Lib.hid (getP_bad k l _ hdl)
    have HFULL := Lib.hid (getP_full l _ hdl)
    have HNEXT := Lib.hid (fun k bl n mk => getP_next k l (s.data.toList.drop at_) hdl (bl := bl) (n := n) (mk := mk))
    have HLAST := Lib.hid (fun k bl n mk => getP_last k l (s.data.toList.drop at_) hdl (bl := bl) (n := n) (mk := mk))
    unfold getE at hgp
    have hpl : p.data.toList.length = 7 := by simpa using hps
    rw [hp] at hgp hpl
    rw [hpl] at hgp
    generalize hgg : getD7 ((s.data.toList.drop at_).take 7) = g at *
    clear hgg hpl hdl
    obtain ⟨ok, bl, n', mk, la⟩ := g
    dsimp only at hgp HBAD HFULL
    obtain ⟨B, hB⟩ : ∃ B : ByteArray, B = ⟨bl.toArray⟩ := ⟨_, rfl⟩
    rw [← hB] at hgp
    have e10 : ((l.length : Int) == 10) = decide (k = 0) := by rw [Bool.eq_iff_iff, beq_iff_eq, decide_eq_true_eq]; omega
    have HL0 := Lib.hid (show l.length + 1 ≤ 100000 from by omega)
    have HBB := Lib.hid hB
    clear hB hp hps hz
    have HGG := Lib.hid hG
    clear hG
    cases ok
    · have hGv : G = (2, []) := HGG.out.trans (HBAD.out rfl)
      have HGV := Lib.hid hGv
      have HGP := Lib.hid (show ∀ W, Calls Tryd.prog 35 #[.string p] W fun e w' => e = .returned (.tuple #[.agg #[.string B, .int .i64 (n' : Int)], .bool mk, .bool la, .int .i64 2]) ∧ Below W.heap.size W w' from hgp)
      have e2 : ((2 : Int) != 0) = true := rfl
      clear hGv hgp
      go_wp2_with (first
        | (go_at_call 35; (with_reducible refine (HGP.out _).mono ?_); rintro e w1 ⟨rfl, hb⟩; have HQ1 := Lib.hid ((HQ.out.below hb).alloc (.cells #[.string B, .int .i64 (n' : Int)] 27)); clear hb p0 q0 pl p1 q1 p2 q2 p3 q3 p4 q4 p5 q5 p6 q6; obtain ⟨⟨p0, q0, pl⟩, ⟨p1, q1, -⟩, ⟨p2, q2, -⟩, ⟨p3, q3, -⟩, ⟨p4, q4, -⟩, ⟨p5, q5, -⟩, ⟨p6, q6, -⟩⟩ := HQ1.out.res))
      have HF := HQ1
      have S7 := stored7 (m := w0.heap.size) (.string ⟨#[]⟩) (.int .i64 0) (.string ⟨#[]⟩) (.int .i64 0) (.bool false) (.bool false) (.slice none 0 0) HF.out.res
      have HBF := Lib.hid (set7_below (m := w0.heap.size) HF.out.bel (Nat.le_refl _) (.string ⟨#[]⟩) (.int .i64 0) (.string ⟨#[]⟩) (.int .i64 0) (.bool false) (.bool false) (.slice none 0 0))
      rw [jumps_ret]
      exact bodyPost_ret (v := .tuple #[zeroPath, .int .i64 0, .int .i64 2]) (by simp [results, Tryd.results20, go_sem, zeroPath, S7.k0.cell, S7.k1.cell, S7.k2.cell, S7.k3.cell, S7.k4.cell, S7.k5.cell, S7.k6.cell]) rfl (by rw [HGV.out]; exact ⟨fun _ => rfl, fun h => (by cases h), HBF.out⟩)
    · have HGP := Lib.hid (show ∀ W, Calls Tryd.prog 35 #[.string p] W fun e w' => e = .returned (.tuple #[.agg #[.string B, .int .i64 (n' : Int)], .bool mk, .bool la, .int .i64 0]) ∧ Below W.heap.size W w' from hgp)
      have e2 : ((0 : Int) != 0) = false := rfl
      clear hgp
      cases k with
      | zero =>
        have hGv : G = (11, []) := HGG.out.trans (HFULL.out rfl)
        have HGV := Lib.hid hGv
        have e10' : ((l.length : Int) == 10) = true := by rw [e10]; rfl
        clear hGv e10
        go_wp2_with (first
          | (go_at_call 35; (with_reducible refine (HGP.out _).mono ?_); rintro e w1 ⟨rfl, hb⟩; have HQ1 := Lib.hid ((HQ.out.below hb).alloc (.cells #[.string B, .int .i64 (n' : Int)] 27)); clear hb p0 q0 pl p1 q1 p2 q2 p3 q3 p4 q4 p5 q5 p6 q6; obtain ⟨⟨p0, q0, pl⟩, ⟨p1, q1, -⟩, ⟨p2, q2, -⟩, ⟨p3, q3, -⟩, ⟨p4, q4, -⟩, ⟨p5, q5, -⟩, ⟨p6, q6, -⟩⟩ := HQ1.out.res))
        have HF := HQ1
        have S7 := stored7 (m := w0.heap.size) (.string ⟨#[]⟩) (.int .i64 0) (.string ⟨#[]⟩) (.int .i64 0) (.bool false) (.bool false) (.slice none 0 0) HF.out.res
        have HBF := Lib.hid (set7_below (m := w0.heap.size) HF.out.bel (Nat.le_refl _) (.string ⟨#[]⟩) (.int .i64 0) (.string ⟨#[]⟩) (.int .i64 0) (.bool false) (.bool false) (.slice none 0 0))
        rw [jumps_ret]
        exact bodyPost_ret (v := .tuple #[zeroPath, .int .i64 0, .int .i64 11]) (by simp [results, Tryd.results20, go_sem, zeroPath, S7.k0.cell, S7.k1.cell, S7.k2.cell, S7.k3.cell, S7.k4.cell, S7.k5.cell, S7.k6.cell]) rfl (by rw [HGV.out]; exact ⟨fun _ => rfl, fun h => (by cases h), HBF.out⟩)
      | succ k =>
        have e10' : ((l.length : Int) == 10) = false := by rw [e10]; rfl
        obtain ⟨l', hl'⟩ : ∃ l' : List Ent, l' = l ++ [(B, (n' : Int), mk)] := ⟨_, rfl⟩
        have HLP := Lib.hid hl'
        have HLN := Lib.hid (show l'.length = l.length + 1 from by rw [hl']; simp)
        have hl1 : l'.length ≤ 10 := by have := HLN.out; omega
        clear hl' e10
        cases la
        · have hGv : G = getP k l' (s.data.toList.drop (at_ + 7)) := by
            rw [HGG.out, HNEXT.out k bl n' mk rfl, HLP.out, HBB.out, List.drop_drop]
          have HGV := Lib.hid hGv
          clear hGv
          go_wp2_with (first
            | (go_at_call 35; (with_reducible refine (HGP.out _).mono ?_); rintro e w1 ⟨rfl, hb⟩; have HQ1 := Lib.hid ((HQ.out.below hb).alloc (.cells #[.string B, .int .i64 (n' : Int)] 27)); clear hb p0 q0 pl p1 q1 p2 q2 p3 q3 p4 q4 p5 q5 p6 q6; obtain ⟨⟨p0, q0, pl⟩, ⟨p1, q1, -⟩, ⟨p2, q2, -⟩, ⟨p3, q3, -⟩, ⟨p4, q4, -⟩, ⟨p5, q5, -⟩, ⟨p6, q6, -⟩⟩ := HQ1.out.res)
            | (at_builtin; have HQ2 := Lib.hid (HQ1.out.alloc (.cells #[.string B, .int .i64 (n' : Int), .bool mk] 55)); have HN2 := Lib.hid (EntsAt.new1 (w1.alloc (.cells #[.string B, .int .i64 (n' : Int)] 27)) (w1.heap.size + 1) (by simp) B (n' : Int) mk 55); refine wpList_append_ents infoD Tryd.underlying28 _ rfl (.tmp 37) (.tmp 41) rfl (w0.heap.size + 1) _ l [(B, (n' : Int), mk)] rfl HQ2.out.own _ _ rfl HN2.out HL0.out HQ2.out.res.k0.lt ?_; intro v' w2 hown hgr hov; rw [← HLP.out] at hown; obtain ⟨va, vc, hvv, -⟩ := hown.ents; subst hvv; have HQ3 := Lib.hid (HQ2.out.grown hown hgr); clear hown hgr hov HQ2 HN2 HQ1 p0 q0 pl p1 q1 p2 q2 p3 q3 p4 q4 p5 q5 p6 q6; obtain ⟨⟨p0, q0, pl⟩, ⟨p1, q1, -⟩, ⟨p2, q2, -⟩, ⟨p3, q3, -⟩, ⟨p4, q4, -⟩, ⟨p5, q5, -⟩, ⟨p6, q6, -⟩⟩ := HQ3.out.res))
          go_step3
          exact ⟨⟨rfl, at_ + 7, k, _, l', ⟨rfl, rfl, rfl, rfl, rfl, by simp⟩, by omega, by have := HLN.out; omega, HGV.out, HQ3.out⟩, by
            have := HN.out
            show 71 - (intOf (.int .i64 ((at_ : Int) + 7))).toNat < n
            simp only [intOf]
            omega⟩
        · have hGv := HGG.out.trans (HLAST.out k bl n' mk rfl)
          rw [← HBB.out, ← HLP.out] at hGv
          by_cases h0 : l.length = 0
          · rw [if_pos h0] at hGv
            have HGV := Lib.hid hGv
            have e1 : decide ((l'.length : Int) < 2) = true := decide_eq_true (by have := HLN.out; omega)
            clear hGv h0 hlk
            go_wp2_with (first
              | (go_at_call 35; (with_reducible refine (HGP.out _).mono ?_); rintro e w1 ⟨rfl, hb⟩; have HQ1 := Lib.hid ((HQ.out.below hb).alloc (.cells #[.string B, .int .i64 (n' : Int)] 27)); clear hb p0 q0 pl p1 q1 p2 q2 p3 q3 p4 q4 p5 q5 p6 q6; obtain ⟨⟨p0, q0, pl⟩, ⟨p1, q1, -⟩, ⟨p2, q2, -⟩, ⟨p3, q3, -⟩, ⟨p4, q4, -⟩, ⟨p5, q5, -⟩, ⟨p6, q6, -⟩⟩ := HQ1.out.res)
              | (at_builtin; have HQ2 := Lib.hid (HQ1.out.alloc (.cells #[.string B, .int .i64 (n' : Int), .bool mk] 55)); have HN2 := Lib.hid (EntsAt.new1 (w1.alloc (.cells #[.string B, .int .i64 (n' : Int)] 27)) (w1.heap.size + 1) (by simp) B (n' : Int) mk 55); refine wpList_append_ents infoD Tryd.underlying28 _ rfl (.tmp 37) (.tmp 41) rfl (w0.heap.size + 1) _ l [(B, (n' : Int), mk)] rfl HQ2.out.own _ _ rfl HN2.out HL0.out HQ2.out.res.k0.lt ?_; intro v' w2 hown hgr hov; rw [← HLP.out] at hown; obtain ⟨va, vc, hvv, -⟩ := hown.ents; subst hvv; have HQ3 := Lib.hid (HQ2.out.grown hown hgr); clear hown hgr hov HQ2 HN2 HQ1 p0 q0 pl p1 q1 p2 q2 p3 q3 p4 q4 p5 q5 p6 q6; obtain ⟨⟨p0, q0, pl⟩, ⟨p1, q1, -⟩, ⟨p2, q2, -⟩, ⟨p3, q3, -⟩, ⟨p4, q4, -⟩, ⟨p5, q5, -⟩, ⟨p6, q6, -⟩⟩ := HQ3.out.res))
            have HF := HQ3
            have S7 := stored7 (m := w0.heap.size) (.string ⟨#[]⟩) (.int .i64 0) (.string ⟨#[]⟩) (.int .i64 0) (.bool false) (.bool false) (.slice none 0 0) HF.out.res
            have HBF := Lib.hid (set7_below (m := w0.heap.size) HF.out.bel (Nat.le_refl _) (.string ⟨#[]⟩) (.int .i64 0) (.string ⟨#[]⟩) (.int .i64 0) (.bool false) (.bool false) (.slice none 0 0))
            rw [jumps_ret]
            exact bodyPost_ret (v := .tuple #[zeroPath, .int .i64 0, .int .i64 2]) (by simp [results, Tryd.results20, go_sem, zeroPath, S7.k0.cell, S7.k1.cell, S7.k2.cell, S7.k3.cell, S7.k4.cell, S7.k5.cell, S7.k6.cell]) rfl (by rw [HGV.out]; exact ⟨fun _ => rfl, fun h => (by cases h), HBF.out⟩)
          · rw [if_neg h0] at hGv
            have e1 : decide ((l'.length : Int) < 2) = false := decide_eq_false (by have := HLN.out; omega)
            obtain ⟨x, y, D, hxy⟩ : ∃ x y D, l' = x :: y :: D := by
              have := HLN.out
              match l', this with
              | [], h =>
                have h' : 0 = l.length + 1 := h
                omega
              | [x], h =>
                have h' : 1 = l.length + 1 := h
                omega
              | x :: y :: D, _ => exact ⟨x, y, D, rfl⟩
            have HXY := Lib.hid hxy
            have hdrop : l'.drop 2 = D := by rw [hxy]; rfl
            have hDl : D.length ≤ 8 := by have h : l'.length = D.length + 2 := by rw [hxy]; simp
                                          omega
            rw [hdrop] at hGv
            have HSL := Lib.hid (show ∀ va vc W, EntsAt W va vc l' → ∃ a2, (∀ W, (Instr.slice 28 (.slice va l'.length vc) (some (.int .i64 2)) none none).run Tryd.prog W = .ok (.slice a2 D.length (vc - 2)) W) ∧ EntsAt W a2 (vc - 2) D from fun va vc W h => by
              obtain ⟨a2, h1, h2⟩ := slice_from Tryd.underlying28 sizeD h 2 (by have := HLN.out; omega)
              rw [hdrop] at h1 h2
              exact ⟨a2, h1, h2⟩)
            have HORD := Lib.hid (fun a c W (h : EntsAt W a c D) => inOrder_any a c D W (by omega) h)
            have HOF := Lib.hid (show ∀ va vc W, EntsAt W va vc l' → Calls Tryd.prog 36 #[.slice va l'.length vc] W fun e w' => ∃ v, e = .returned (.agg #[.string x.1, .int .i64 x.2.1, .string y.1, .int .i64 y.2.1, .bool x.2.2, .bool y.2.2, v]) ∧ OwnE 55 w' W.heap.size v D ∧ Below W.heap.size W w' from fun va vc W h => by
              rw [hxy] at h ⊢
              exact of_any x.1 y.1 x.2.1 y.2.1 x.2.2 y.2.2 va vc D W (by omega) h)
            clear hxy hdrop h0
            generalize ordD D = O at *
            cases O
            · have HGV := Lib.hid (show G = (11, []) from hGv)
              clear hGv
              go_wp2_with (first
                | (go_at_call 26; (with_reducible refine (HORD.out a2 (vc - 2) _ hE2).mono ?_); rintro e w3 ⟨rfl, hb⟩; have HQ4 := Lib.hid (HQ3.out.below hb); clear hb hE2 p0 q0 pl p1 q1 p2 q2 p3 q3 p4 q4 p5 q5 p6 q6; obtain ⟨⟨p0, q0, pl⟩, ⟨p1, q1, -⟩, ⟨p2, q2, -⟩, ⟨p3, q3, -⟩, ⟨p4, q4, -⟩, ⟨p5, q5, -⟩, ⟨p6, q6, -⟩⟩ := HQ4.out.res)
                | (go_at_call 35; (with_reducible refine (HGP.out _).mono ?_); rintro e w1 ⟨rfl, hb⟩; have HQ1 := Lib.hid ((HQ.out.below hb).alloc (.cells #[.string B, .int .i64 (n' : Int)] 27)); clear hb p0 q0 pl p1 q1 p2 q2 p3 q3 p4 q4 p5 q5 p6 q6; obtain ⟨⟨p0, q0, pl⟩, ⟨p1, q1, -⟩, ⟨p2, q2, -⟩, ⟨p3, q3, -⟩, ⟨p4, q4, -⟩, ⟨p5, q5, -⟩, ⟨p6, q6, -⟩⟩ := HQ1.out.res)
                | (at_builtin; have HQ2 := Lib.hid (HQ1.out.alloc (.cells #[.string B, .int .i64 (n' : Int), .bool mk] 55)); have HN2 := Lib.hid (EntsAt.new1 (w1.alloc (.cells #[.string B, .int .i64 (n' : Int)] 27)) (w1.heap.size + 1) (by simp) B (n' : Int) mk 55); refine wpList_append_ents infoD Tryd.underlying28 _ rfl (.tmp 37) (.tmp 41) rfl (w0.heap.size + 1) _ l [(B, (n' : Int), mk)] rfl HQ2.out.own _ _ rfl HN2.out HL0.out HQ2.out.res.k0.lt ?_; intro v' w2 hown hgr hov; rw [← HLP.out] at hown; obtain ⟨va, vc, hvv, -⟩ := hown.ents; subst hvv; have HQ3 := Lib.hid (HQ2.out.grown hown hgr); clear hown hgr hov HQ2 HN2 HQ1 p0 q0 pl p1 q1 p2 q2 p3 q3 p4 q4 p5 q5 p6 q6; obtain ⟨⟨p0, q0, pl⟩, ⟨p1, q1, -⟩, ⟨p2, q2, -⟩, ⟨p3, q3, -⟩, ⟨p4, q4, -⟩, ⟨p5, q5, -⟩, ⟨p6, q6, -⟩⟩ := HQ3.out.res; obtain ⟨a2, hsl2, hE2⟩ := HSL.out va vc _ (ents_of_own HQ3.out.own)))
              have HF := HQ4
              have S7 := stored7 (m := w0.heap.size) (.string ⟨#[]⟩) (.int .i64 0) (.string ⟨#[]⟩) (.int .i64 0) (.bool false) (.bool false) (.slice none 0 0) HF.out.res
              have HBF := Lib.hid (set7_below (m := w0.heap.size) HF.out.bel (Nat.le_refl _) (.string ⟨#[]⟩) (.int .i64 0) (.string ⟨#[]⟩) (.int .i64 0) (.bool false) (.bool false) (.slice none 0 0))
              rw [jumps_ret]
              exact bodyPost_ret (v := .tuple #[zeroPath, .int .i64 0, .int .i64 11]) (by simp [results, Tryd.results20, go_sem, zeroPath, S7.k0.cell, S7.k1.cell, S7.k2.cell, S7.k3.cell, S7.k4.cell, S7.k5.cell, S7.k6.cell]) rfl (by rw [HGV.out]; exact ⟨fun _ => rfl, fun h => (by cases h), HBF.out⟩)
            · have HGV := Lib.hid (show G = (0, l') from hGv)
              clear hGv
              have HLY := Lib.hid (show ((7 * l'.length : Nat) : Int) = (at_ : Int) + 7 from by have := HLN.out; omega)
              go_wp2_with (first
                | (go_at_call 26; (with_reducible refine (HORD.out a2 (vc - 2) _ hE2).mono ?_); rintro e w3 ⟨rfl, hb⟩; have HQ4 := Lib.hid (HQ3.out.below hb); clear hb hE2)
                | (go_at_call 36; (with_reducible refine (HOF.out va vc _ (ents_of_own HQ4.out.own)).mono ?_); rintro e w4 ⟨v, rfl, hv, hb⟩; obtain ⟨da, dc, hvv, -⟩ := hv.ents; subst hvv; have HQ5 := Lib.hid (HQ4.out.below hb); have HV := Lib.hid hv; have HZ4 := Lib.hid HQ4.out.res.k0.lt; clear hb hv p0 q0 pl p1 q1 p2 q2 p3 q3 p4 q4 p5 q5 p6 q6; obtain ⟨⟨p0, q0, pl⟩, ⟨p1, q1, -⟩, ⟨p2, q2, -⟩, ⟨p3, q3, -⟩, ⟨p4, q4, -⟩, ⟨p5, q5, -⟩, ⟨p6, q6, -⟩⟩ := HQ5.out.res)
                | (go_at_call 35; (with_reducible refine (HGP.out _).mono ?_); rintro e w1 ⟨rfl, hb⟩; have HQ1 := Lib.hid ((HQ.out.below hb).alloc (.cells #[.string B, .int .i64 (n' : Int)] 27)); clear hb p0 q0 pl p1 q1 p2 q2 p3 q3 p4 q4 p5 q5 p6 q6; obtain ⟨⟨p0, q0, pl⟩, ⟨p1, q1, -⟩, ⟨p2, q2, -⟩, ⟨p3, q3, -⟩, ⟨p4, q4, -⟩, ⟨p5, q5, -⟩, ⟨p6, q6, -⟩⟩ := HQ1.out.res)
                | (at_builtin; have HQ2 := Lib.hid (HQ1.out.alloc (.cells #[.string B, .int .i64 (n' : Int), .bool mk] 55)); have HN2 := Lib.hid (EntsAt.new1 (w1.alloc (.cells #[.string B, .int .i64 (n' : Int)] 27)) (w1.heap.size + 1) (by simp) B (n' : Int) mk 55); refine wpList_append_ents infoD Tryd.underlying28 _ rfl (.tmp 37) (.tmp 41) rfl (w0.heap.size + 1) _ l [(B, (n' : Int), mk)] rfl HQ2.out.own _ _ rfl HN2.out HL0.out HQ2.out.res.k0.lt ?_; intro v' w2 hown hgr hov; rw [← HLP.out] at hown; obtain ⟨va, vc, hvv, -⟩ := hown.ents; subst hvv; have HQ3 := Lib.hid (HQ2.out.grown hown hgr); clear hown hgr hov HQ2 HN2 HQ1 p0 q0 pl p1 q1 p2 q2 p3 q3 p4 q4 p5 q5 p6 q6; obtain ⟨⟨p0, q0, pl⟩, ⟨p1, q1, -⟩, ⟨p2, q2, -⟩, ⟨p3, q3, -⟩, ⟨p4, q4, -⟩, ⟨p5, q5, -⟩, ⟨p6, q6, -⟩⟩ := HQ3.out.res; obtain ⟨a2, hsl2, hE2⟩ := HSL.out va vc _ (ents_of_own HQ3.out.own)))
              have S7 := stored7 (m := w0.heap.size) (.string x.1) (.int .i64 x.2.1) (.string y.1) (.int .i64 y.2.1) (.bool x.2.2) (.bool y.2.2) (.slice da D.length dc) HQ5.out.res
              have HOW := Lib.hid (own7 (m := w0.heap.size) HV.out HZ4.out (.string x.1) (.int .i64 x.2.1) (.string y.1) (.int .i64 y.2.1) (.bool x.2.2) (.bool y.2.2) (.slice da D.length dc))
              have HBF := Lib.hid (set7_below (m := w0.heap.size) HQ5.out.bel (Nat.le_refl _) (.string x.1) (.int .i64 x.2.1) (.string y.1) (.int .i64 y.2.1) (.bool x.2.2) (.bool y.2.2) (.slice da D.length dc))
              rw [jumps_ret]
              exact bodyPost_ret (v := .tuple #[.agg #[.string x.1, .int .i64 x.2.1, .string y.1, .int .i64 y.2.1, .bool x.2.2, .bool y.2.2, .slice da D.length dc], .int .i64 ((at_ : Int) + 7), .int .i64 0]) (by simp [results, Tryd.results20, go_sem, S7.k0.cell, S7.k1.cell, S7.k2.cell, S7.k3.cell, S7.k4.cell, S7.k5.cell, S7.k6.cell]) rfl (by
                rw [HGV.out]
                exact ⟨fun h => absurd rfl h, fun _ => ⟨x, y, D, da, dc, HXY.out, by rw [HLY.out], HOW.out.base (Nat.le_of_lt HZ4.out)⟩, HBF.out⟩)
  · have d7 : decide ((s.size : Int) - (at_ : Int) < 7) = true := decide_eq_true (by omega)
    have HGV := Lib.hid (show G = (4, []) from hG.trans (getP_short k l _ (by rw [List.length_drop, hz]; omega)))
    clear hG
    go_wp2
    have HF := HQ
    have S7 := stored7 (m := w0.heap.size) (.string ⟨#[]⟩) (.int .i64 0) (.string ⟨#[]⟩) (.int .i64 0) (.bool false) (.bool false) (.slice none 0 0) HF.out.res
    have HBF := Lib.hid (set7_below (m := w0.heap.size) HF.out.bel (Nat.le_refl _) (.string ⟨#[]⟩) (.int .i64 0) (.string ⟨#[]⟩) (.int .i64 0) (.bool false) (.bool false) (.slice none 0 0))
    rw [jumps_ret]
    exact bodyPost_ret (v := .tuple #[zeroPath, .int .i64 0, .int .i64 4]) (by simp [results, Tryd.results20, go_sem, zeroPath, S7.k0.cell, S7.k1.cell, S7.k2.cell, S7.k3.cell, S7.k4.cell, S7.k5.cell, S7.k6.cell]) rfl (by rw [HGV.out]; exact ⟨fun _ => rfl, fun h => (by cases h), HBF.out⟩)
set_option maxRecDepth 100000 in
set_option maxHeartbeats 4000000 in
theorem pget_own (s : ByteArray) (w : World) (hs : s.size ≤ 100000) :
    Calls Tryd.prog 20 #[.string s] w fun e w' => PGetO w (getP 10 [] s.data.toList) e w' := by
  obtain ⟨G, hG⟩ : ∃ G, G = getP 10 [] s.data.toList := ⟨_, rfl⟩
  rw [← hG]
  have HP := Lib.hid (pget_pass w s hs G)
  have HA := Lib.hid (show PgAt w (w.alloc (.cells #[.string ⟨#[]⟩, .int .i64 0, .string ⟨#[]⟩, .int .i64 0, .bool false, .bool false, .slice none 0 0] 30)) (.slice none 0 0) [] from ⟨OwnE.nil _ _ _, P7.new w _ rfl _ _ _ _ _ _ _ _, (Below.refl _ w).alloc (Nat.le_refl _) _⟩)
  have HG := Lib.hid hG
  clear hG
  go_enter Tryd.func20, Tryd.ntmps20
  go_wp2
  refine scope_places (fun l a' w' => GJ w s G l a' w' ∧ gmu l a' w' ≤ 71) gmu ?_ ?_
  · go_wp2
    go_step3
    rename_i hK
    refine hK _ _ ?_
    clear hK
    obtain ⟨r, hr, hq⟩ := HP.out
    refine falls hr (wp_mono (hq 71 _ _ ⟨rfl, 0, 10, _, [], ⟨rfl, rfl, rfl, rfl, rfl, rfl⟩, rfl, rfl, HG.out, HA.out⟩ ?_) ?_) (by rfl)
    · show 71 - _ ≤ 71
      exact Nat.sub_le _ _
    · intro e a' w' hq
      cases e with
      | goto l' => exact ⟨hq.1, Nat.le_of_lt hq.2⟩
      | _ => exact hq
  · intro l a' w' ⟨hj, hn⟩
    obtain ⟨rfl, _⟩ := id hj
    obtain ⟨r, hr, hq⟩ := HP.out
    refine ⟨_, hr, wp_seq (wp_skip ?_)⟩
    refine wp_mono (hq (gmu 0 a' w') a' w' hj (Nat.le_refl _)) ?_
    intro e a'' w'' hq2
    cases e with
    | goto l' => exact ⟨⟨hq2.1, by have := hq2.2; omega⟩, hq2.2⟩
    | _ => exact hq2
theorem pget_any (s : ByteArray) (w : World) (hs : s.size ≤ 100000) :
    Calls Tryd.prog 20 #[.string s] w fun e w' => PGetTo w (getP 10 [] s.data.toList) e w' :=
  (pget_own s w hs).mono fun e w' h => ⟨h.1, fun h0 => by
    obtain ⟨x, y, D, da, dc, h1, h2, h3⟩ := h.2.1 h0
    exact ⟨x, y, D, da, dc, h1, h2, ents_of_own h3⟩, h.2.2⟩
end Go.Proofs.YtmgfpnemamedoaaDoor
namespace Go.Proofs.YtmgfpnemamedoaaDoor
open Go.RowKit Go.Sort
set_option maxRecDepth 20000
theorem RowAt.set6 {W : World} {m : Nat} {x0 x1 x2 x3 x4 x5 : Value} (h : RowAt W m [x0, x1, x2, x3, x4, x5]) (u0 u1 u2 u3 u4 u5 : Value) : RowAt ((((((W.setCell ⟨m, 0, none⟩ u0).setCell ⟨m, 1, none⟩ u1).setCell ⟨m, 2, none⟩ u2).setCell ⟨m, 3, none⟩ u3).setCell ⟨m, 4, none⟩ u4).setCell ⟨m, 5, none⟩ u5) m [u0, u1, u2, u3, u4, u5] :=
  (((((h.put 0 u0 [u0, x1, x2, x3, x4, x5] rfl).put 1 u1 [u0, u1, x2, x3, x4, x5] rfl).put 2 u2 [u0, u1, u2, x3, x4, x5] rfl).put 3 u3 [u0, u1, u2, u3, x4, x5] rfl).put 4 u4 [u0, u1, u2, u3, u4, x5] rfl).put 5 u5 _ rfl
theorem set6_below {w W : World} {m B : Nat} (hb : Below B w W) (hm : B ≤ m) (u0 u1 u2 u3 u4 u5 : Value) : Below B w ((((((W.setCell ⟨m, 0, none⟩ u0).setCell ⟨m, 1, none⟩ u1).setCell ⟨m, 2, none⟩ u2).setCell ⟨m, 3, none⟩ u3).setCell ⟨m, 4, none⟩ u4).setCell ⟨m, 5, none⟩ u5) :=
  Below.setCell (p := ⟨m, 5, none⟩) (Below.setCell (p := ⟨m, 4, none⟩) (Below.setCell (p := ⟨m, 3, none⟩) (Below.setCell (p := ⟨m, 2, none⟩) (Below.setCell (p := ⟨m, 1, none⟩) (Below.setCell (p := ⟨m, 0, none⟩) hb hm _) hm _) hm _) hm _) hm _) hm _
theorem cnew23 (w : World) : Calls Tryd.prog 6 #[] w fun e w' => (∃ p, e = .returned (ptrH p) ∧ w.heap.size ≤ p ∧ HdAt w' p (.slice none 0 0) []) ∧ Below w.heap.size w w' := by
  have HB := Lib.hid ((Below.refl w.heap.size w).alloc (Nat.le_refl _) (.cells #[.slice none 0 0] 51))
  have HR := Lib.hid (RowAt.new w w.heap.size rfl [.slice none 0 0] 51)
  go_enter Tryd.func6, Tryd.ntmps6
  go_wp2_with fail
  exact bodyPost_ret (v := ptrH w.heap.size) (by simp [results, Tryd.results6, go_sem]) rfl ⟨⟨_, rfl, Nat.le_refl _, HR.out, OwnL.nil _ _ _ _, Nat.zero_le _, fun h hh => by cases hh⟩, HB.out⟩
theorem cclear23 (w : World) (p : Nat) (sv : Value) (L : List Hs) (h : HdAt w p sv L) : Calls Tryd.prog 12 #[ptrH p] w fun e w' => e = .returned (.tuple #[]) ∧ HdAt w' p (.slice none 0 0) [] ∧ Turn (fun k => k = p) w w' := by
  have HR := Lib.hid (h.row.put 0 (.slice none 0 0) _ rfl)
  obtain ⟨x0, f0, l0⟩ := h.row.get 0 rfl
  clear h
  go_enter Tryd.func12, Tryd.ntmps12
  go_wp2_with fail
  exact bodyPost_end (v := .tuple #[]) (by simp [results, Tryd.results12, go_sem]) rfl ⟨rfl, ⟨HR.out, OwnL.nil _ _ _ _, Nat.zero_le _, fun h hh => by cases hh⟩, Turn.set (F := fun k => k = p) (Turn.refl _ w) (p := ⟨p, 0, none⟩) (Or.inl rfl) _⟩
/-- a list that isn't there -/
theorem cclear0 (w : World) : Calls Tryd.prog 12 #[.pointer none] w fun e w' => e = .returned (.tuple #[]) ∧ w' = w := by
  go_enter Tryd.func12, Tryd.ntmps12
  go_wp2_with fail
  exact bodyPost_end (v := .tuple #[]) (by simp [results, Tryd.results12, go_sem]) rfl ⟨rfl, rfl⟩
theorem call0 (w : World) : Calls Tryd.prog 10 #[.pointer none] w fun e w' => e = .returned (.slice none 0 0) ∧ w' = w := by
  go_enter Tryd.func10, Tryd.ntmps10
  go_wp2_with fail
  exact bodyPost_ret (v := .slice none 0 0) (by simp [results, Tryd.results10, go_sem]) rfl ⟨rfl, rfl⟩
theorem cfind0 (cb : ByteArray) (cn : Int) (w : World) : Calls Tryd.prog 11 #[.pointer none, .agg #[.string cb, .int .i64 cn]] w fun e w' => e = .returned (.tuple #[.agg #[.string ⟨#[]⟩, .int .i64 0, .string ⟨#[]⟩, .int .i64 0, .int .i64 0, .int .i64 0], .bool false]) ∧ Below w.heap.size w w' := by
  have HB := Lib.hid (((Below.refl w.heap.size w).alloc (Nat.le_refl _) (.cells #[.string cb, .int .i64 cn] 27)).alloc (by simp) (.cells #[.string ⟨#[]⟩, .int .i64 0, .string ⟨#[]⟩, .int .i64 0, .int .i64 0, .int .i64 0] 42))
  go_enter Tryd.func11, Tryd.ntmps11
  go_wp2_with fail
  exact bodyPost_ret (v := .tuple #[.agg #[.string ⟨#[]⟩, .int .i64 0, .string ⟨#[]⟩, .int .i64 0, .int .i64 0, .int .i64 0], .bool false]) (by simp [results, Tryd.results11, go_sem]) rfl ⟨rfl, HB.out⟩
theorem chear0 (s : ByteArray) (now : Int) (w : World) (hs : s.size ≤ 100000) : Calls Tryd.prog 9 #[.pointer none, .string s, .int .i64 now] w fun e w' => e = .returned (.bool false) ∧ Below w.heap.size w w' := by
  have HG := Lib.hid (show Calls Tryd.prog 20 #[.string s] w fun e w' => (∃ v0 v1 v2 v3 v4 v5 va vn vc v7 er, e = .returned (.tuple #[.agg #[.string v0, .int .i64 v1, .string v2, .int .i64 v3, .bool v4, .bool v5, .slice va vn vc], .int .i64 v7, .int .i64 er])) ∧ Below w.heap.size w w' from (pget_any s w hs).mono fun e w' h => by
    by_cases h0 : (getP 10 [] s.data.toList).1 = 0
    · obtain ⟨x, y, D, da, dc, -, h2, -⟩ := h.2.1 h0
      exact ⟨⟨_, _, _, _, _, _, _, _, _, _, _, h2⟩, h.2.2⟩
    · exact ⟨⟨_, _, _, _, _, _, _, _, _, _, _, h.1 h0⟩, h.2.2⟩)
  clear hs
  go_enter Tryd.func9, Tryd.ntmps9
  go_wp2_with (go_at_call 20; (with_reducible refine HG.out.mono ?_); rintro e w1 ⟨⟨v0, v1, v2, v3, v4, v5, va, vn, vc, v7, er, rfl⟩, hb⟩; have HB := Lib.hid (hb.alloc hb.size (.cells #[.string v0, .int .i64 v1, .string v2, .int .i64 v3, .bool v4,   .bool v5, .slice va vn vc] 30)); clear hb)
  exact bodyPost_ret (v := .bool false) (by simp [results, Tryd.results9, go_sem]) rfl ⟨rfl, HB.out⟩
set_option maxHeartbeats 1000000 in
theorem cfresh23 (cb vb : ByteArray) (cn vn k t : Int) (w : World) (h1 : cb.size ≤ 1000) (h2 : vb.size ≤ 1000) : Calls Tryd.prog 24 #[.agg #[.string cb, .int .i64 cn, .string vb, .int .i64 vn, .int .i64 k, .int .i64 t]] w fun e w' => e = .returned (.agg #[.string cb, .int .i64 cn, .string vb, .int .i64 vn, .int .i64 k, .int .i64 t]) ∧ Below w.heap.size w w' := by
  have HB0 := Lib.hid (((Below.refl w.heap.size w).alloc (Nat.le_refl _) (.cells #[.string cb, .int .i64 cn, .string vb, .int .i64 vn, .int .i64 k, .int .i64 t] 42)).alloc (by simp) (.cells #[.string ⟨#[]⟩, .int .i64 0, .string ⟨#[]⟩, .int .i64 0, .int .i64 0, .int .i64 0] 42))
  have HR0 := Lib.hid ((RowAt.new w w.heap.size rfl [.string cb, .int .i64 cn, .string vb, .int .i64 vn, .int .i64 k, .int .i64 t] 42).alloc (.cells #[.string ⟨#[]⟩, .int .i64 0, .string ⟨#[]⟩, .int .i64 0, .int .i64 0, .int .i64 0] 42))
  have HZ0 := Lib.hid (RowAt.new (w.alloc (.cells #[.string cb, .int .i64 cn, .string vb, .int .i64 vn, .int .i64 k, .int .i64 t] 42)) (w.heap.size + 1) (by simp) [.string ⟨#[]⟩, .int .i64 0, .string ⟨#[]⟩, .int .i64 0, .int .i64 0, .int .i64 0] 42)
  have HC1 := Lib.hid (fun W => clone_any cb W (by omega))
  have HC2 := Lib.hid (fun W => clone_any vb W (by omega))
  clear h1 h2
  go_enter Tryd.func24, Tryd.ntmps24
  go_wp2_with (first
    | (go_at_call 25; (with_reducible refine (HC1.out _).mono ?_); rintro e w1 ⟨rfl, hb⟩; have HB1 := Lib.hid (Below.setCell (p := ⟨w.heap.size, 0, none⟩) (HB0.out.trans (hb.mono HB0.out.size)) (Nat.le_refl _) (.string cb)); have HR1 := Lib.hid ((HR0.out.below hb).put 0 (.string cb) [.string cb, .int .i64 cn, .string vb, .int .i64 vn, .int .i64 k, .int .i64 t] rfl); have HZ1 := Lib.hid ((HZ0.out.below hb).other (g := w.heap.size) (p := 0) (.string cb) (by omega)); obtain ⟨x0, f0, l0⟩ := (HR0.out.below hb).get 0 rfl; have x2 := (HR0.out.below hb).cell 2 rfl; clear hb)
    | (go_at_call 25; (with_reducible refine (HC2.out _).mono ?_); rintro e w2 ⟨rfl, hb⟩; clear x0 f0 l0 x2; have HB2 := Lib.hid (Below.setCell (p := ⟨w.heap.size, 2, none⟩) (HB1.out.trans (hb.mono HB1.out.size)) (Nat.le_refl _) (.string vb)); have HR2 := Lib.hid ((HR1.out.below hb).put 2 (.string vb) [.string cb, .int .i64 cn, .string vb, .int .i64 vn, .int .i64 k, .int .i64 t] rfl); have HZ2 := Lib.hid ((HZ1.out.below hb).other (g := w.heap.size) (p := 2) (.string vb) (by omega)); obtain ⟨x2, f2, l2⟩ := (HR1.out.below hb).get 2 rfl; have x0 := (HR1.out.below hb).cell 0 rfl; have x1 := (HR1.out.below hb).cell 1 rfl; have x3 := (HR1.out.below hb).cell 3 rfl; have x4 := (HR1.out.below hb).cell 4 rfl; have x5 := (HR1.out.below hb).cell 5 rfl; obtain ⟨z0, g0, -⟩ := (HZ1.out.below hb).get 0 rfl; obtain ⟨z1, g1, -⟩ := (HZ1.out.below hb).get 1 rfl; obtain ⟨z2, g2, -⟩ := (HZ1.out.below hb).get 2 rfl; obtain ⟨z3, g3, -⟩ := (HZ1.out.below hb).get 3 rfl; obtain ⟨z4, g4, -⟩ := (HZ1.out.below hb).get 4 rfl; obtain ⟨z5, g5, -⟩ := (HZ1.out.below hb).get 5 rfl; clear hb))
  have S6 := HZ2.out.set6 (.string cb) (.int .i64 cn) (.string vb) (.int .i64 vn) (.int .i64 k) (.int .i64 t)
  exact bodyPost_ret (v := .agg #[.string cb, .int .i64 cn, .string vb, .int .i64 vn, .int .i64 k, .int .i64 t]) (by simp [results, Tryd.results24, go_sem, S6.cell 0 rfl, S6.cell 1 rfl, S6.cell 2 rfl, S6.cell 3 rfl, S6.cell 4 rfl, S6.cell 5 rfl]) rfl ⟨rfl, set6_below HB2.out (by omega) _ _ _ _ _ _⟩
end Go.Proofs.YtmgfpnemamedoaaDoor
namespace Go.Proofs.YtmgfpnemamedoaaDoor
set_option maxRecDepth 20000
open Go.RowKit
section
variable {P : Program} {md : Region.Mode} {ops : Array Oper} {Q : Exit → Act → World → Prop}
/-- the numbers that an operation waits for -/
def waits (md : Region.Mode) (o : Oper) : List Nat := (o.after.toList.filter (Region.binds md)).map (·.on)
/-- they all stand ahead of it -/
def waitsOk (md : Region.Mode) : Nat → List Oper → Bool
  | _, [] => true
  | i, o :: l => (waits md o).all (fun j => decide (j < i)) && waitsOk md (i + 1) l
/-- one yield more -/
def upd (u : Nat → Value) (i : Nat) (v : Value) (k : Nat) : Value := if k = i then v else u k
/-- one operation is run, whatever came up ahead of it -/
def FStep (P : Program) (md : Region.Mode) (ops : Array Oper) (Q : Exit → Act → World → Prop) (F : (Nat → Value) → Act) (R : World → World → Prop) (S : World → Prop) (φ : Nat → Value → World → Prop) (i : Nat) (o : Oper) : Prop :=
  ∀ (u : Nat → Value) (w : World), S w → (∀ j, (waits md o).contains j = true → φ j (u j) w) →
    ∀ K : Act → World → Prop, Shut (∀ v w', R w w' → φ i v w' → K (F (upd u i v)) w') →
      if Region.wanted o (yielded ops (F u).tmps) = true then Oper.wp P o (F u) w K Q else K ((F u).put o.dst undef) w
def FSteps (P : Program) (md : Region.Mode) (ops : Array Oper) (Q : Exit → Act → World → Prop) (F : (Nat → Value) → Act) (R : World → World → Prop) (S : World → Prop) (φ : Nat → Value → World → Prop) : Nat → List Oper → Prop
  | _, [] => True
  | i, o :: l => FStep P md ops Q F R S φ i o ∧ FSteps P md ops Q F R S φ (i + 1) l
theorem FSteps.cons {F : (Nat → Value) → Act} {R : World → World → Prop} {S : World → Prop} {φ : Nat → Value → World → Prop} {i : Nat} {o : Oper} {l : List Oper} (h : FStep P md ops Q F R S φ i o) (hs : FSteps P md ops Q F R S φ (i + 1) l) : FSteps P md ops Q F R S φ i (o :: l) := ⟨h, hs⟩
theorem FSteps.get {F : (Nat → Value) → Act} {R : World → World → Prop} {S : World → Prop} {φ : Nat → Value → World → Prop} : ∀ (l : List Oper) (i : Nat), FSteps P md ops Q F R S φ i l → ∀ k o, l[k]? = some o → FStep P md ops Q F R S φ (i + k) o
  | [], _, _, k, o, h => by simp at h
  | x :: l, i, h, 0, o, e => by
    simp only [List.getElem?_cons_zero, Option.some.injEq] at e
    subst e
    exact h.1
  | x :: l, i, h, k + 1, o, e => by
    have := FSteps.get l (i + 1) h.2 k o (by simpa using e)
    rwa [show i + (k + 1) = i + 1 + k by omega]
theorem waitsOk_get : ∀ (l : List Oper) (i : Nat), waitsOk md i l = true → ∀ k o, l[k]? = some o → ∀ j ∈ waits md o, j < i + k
  | [], _, _, k, o, h => by simp at h
  | x :: l, i, h, 0, o, e => by
    simp only [List.getElem?_cons_zero, Option.some.injEq] at e
    subst e
    have h1 : ((waits md x).all (fun j => decide (j < i)) && waitsOk md (i + 1) l) = true := h
    rw [Bool.and_eq_true] at h1
    intro j hj
    have := List.all_eq_true.1 h1.1 j hj
    simpa using this
  | x :: l, i, h, k + 1, o, e => by
    have h1 : ((waits md x).all (fun j => decide (j < i)) && waitsOk md (i + 1) l) = true := h
    rw [Bool.and_eq_true] at h1
    intro j hj
    have := waitsOk_get l (i + 1) h1.2 k o (by simpa using e) j hj
    omega
theorem count_set : ∀ (l : List Bool) (i : Nat), l[i]? = some false → (l.set i true).count false + 1 = l.count false
  | [], i, h => by simp at h
  | b :: l, 0, h => by
    simp only [List.getElem?_cons_zero, Option.some.injEq] at h
    subst h
    simp
  | b :: l, i + 1, h => by
    have := count_set l i (by simpa using h)
    simp only [List.set_cons_succ, List.count_cons]
    omega
theorem facts_sound (F : (Nat → Value) → Act) (R : World → World → Prop) (S : World → Prop) (φ : Nat → Value → World → Prop)
    (hw : waitsOk md 0 ops.toList = true) (hφ : ∀ j v w w', R w w' → φ j v w → φ j v w') (hS : ∀ w w', R w w' → S w → S w')
    (hstep : FSteps P md ops Q F R S φ 0 ops.toList) (hend : ∀ u w, S w → (∀ j, Nat.blt j ops.size = true → φ j (u j) w) → Q .normal (F u) w) :
    ∀ (fuel : Nat) (listed : Array Bool) (u : Nat → Value) (w : World), listed.size = ops.size → listed.toList.count false ≤ fuel → S w → (∀ j, listed.getD j false = true → φ j (u j) w) → wpAny P md ops Q fuel listed (F u) w := by
  intro fuel
  have fin : ∀ (listed : Array Bool) (u : Nat → Value) (w : World), listed.size = ops.size → S w → (∀ j, listed.getD j false = true → φ j (u j) w) → Region.ready md ops listed = [] → Q .normal (F u) w := by
    intro listed u w hz hs hf hr
    refine hend u w hs fun j hj => hf j ?_
    have hj' : j < ops.size := by simpa using hj
    clear hj
    induction j using Nat.strongRecOn with
    | _ j ih =>
      cases hd : listed.getD j false with
      | true => rfl
      | false =>
        exfalso
        have ho : ops[j]? = some ops[j] := Array.getElem?_eq_getElem hj'
        have hl : ops.toList[j]? = some ops[j] := (Array.getElem?_toList).trans ho
        have hmem : j ∈ Region.ready md ops listed := by
          refine mem_ready.2 ⟨?_, ops[j], ho, fun e he hb => ?_⟩
          · have hjl : j < listed.size := by omega
            simp only [Array.getD, hjl, dif_pos] at hd ⊢
            exact hd
          · have hmw : e.on ∈ waits md ops[j] := List.mem_map.2 ⟨e, List.mem_filter.2 ⟨by simpa using he, hb⟩, rfl⟩
            have hlt := waitsOk_get ops.toList 0 hw j ops[j] hl e.on hmw
            exact ih e.on (by omega) (by omega)
        rw [hr] at hmem
        cases hmem
  induction fuel with
  | zero =>
    intro listed u w hz hc hs hf
    have hr : Region.ready md ops listed = [] := by
      refine List.eq_nil_iff_forall_not_mem.2 fun j hj => ?_
      obtain ⟨h1, o, ho, -⟩ := mem_ready.1 hj
      have hjl : j < listed.size := by have := (Array.getElem?_eq_some_iff.1 ho).1; omega
      simp only [Array.getD, hjl, dif_pos] at h1
      have hm : false ∈ listed.toList := by
        rw [← h1]
        exact List.mem_iff_getElem.2 ⟨j, by simpa using hjl, by simp⟩
      have := List.count_pos_iff.2 hm
      omega
    exact ⟨hr, fin listed u w hz hs hf hr⟩
  | succ fuel ih =>
    intro listed u w hz hc hs hf
    refine ⟨fin listed u w hz hs hf, fun i hi => ?_⟩
    obtain ⟨h1, o, ho, hall⟩ := mem_ready.1 hi
    have hio : i < ops.size := (Array.getElem?_eq_some_iff.1 ho).1
    have hil : i < listed.size := by omega
    have hl : ops.toList[i]? = some o := by simpa using ho
    have st := hstep.get ops.toList 0 i o hl
    rw [Nat.zero_add] at st
    refine wpOp_step ho fun K hK => st u w hs (fun j hj => ?_) K (fun v w' hR hv => hK _ _ ?_)
    · obtain ⟨e, he, rfl⟩ := List.mem_map.1 (List.contains_iff_mem.1 hj)
      obtain ⟨he1, he2⟩ := List.mem_filter.1 he
      exact hf e.on (hall e (by simpa using he1) he2)
    · refine ih _ _ _ (by simpa using hz) ?_ (hS _ _ hR hs) fun j hj => ?_
      · have h1' : listed.toList[i]? = some false := by
          simp only [Array.getD, hil, dif_pos] at h1
          exact (Array.getElem?_toList).trans ((Array.getElem?_eq_getElem hil).trans (congrArg some h1))
        have := count_set listed.toList i h1'
        rw [Array.toList_setIfInBounds]
        omega
      · by_cases hji : j = i
        · subst hji
          show φ j (if j = j then v else u j) w'
          rw [if_pos rfl]
          exact hv
        · show φ j (if j = i then v else u j) w'
          rw [if_neg hji]
          rw [getD_set_ne false (fun e => hji e.symm)] at hj
          exact hφ _ _ _ _ hR (hf j hj)
/-- a frame in which each operation's slot holds its yield -/
def fillAct : List Oper → Nat → (Nat → Value) → Act → Act
  | [], _, _, a => a
  | o :: l, i, u, a => fillAct l (i + 1) u (a.put o.dst (u i))
/-- the region -/
theorem wp_region_facts {id : Nat} {a : Act} {w : World} (R : World → World → Prop) (S : World → Prop) (φ : Nat → Value → World → Prop)
    (hm : P.follows .mixedOrders = true) (hw : waitsOk .any 0 ops.toList = true) (hφ : ∀ j v w w', R w w' → φ j v w → φ j v w') (hS : ∀ w w', R w w' → S w → S w')
    (u : Nat → Value) (hu : fillAct ops.toList 0 u a = a) (hs : S w.drew) (F : (Nat → Value) → Act) (hF : ∀ u, fillAct ops.toList 0 u a = F u)
    (hstep : FSteps P .any ops Q F R S φ 0 ops.toList) (hend : ∀ u w', S w' → (∀ j, Nat.blt j ops.size = true → φ j (u j) w') → Q .normal (F u) w') : (Code.region id ops true).wp P Q a w := by
  have e : F u = a := (hF u).symm.trans hu
  subst e
  refine wp_region_any hm (facts_sound F R S φ hw hφ hS hstep hend _ _ u _ (by simp) ?_ hs fun j hj => ?_)
  · exact Nat.le_trans List.count_le_length (by simp)
  · have : (Array.replicate ops.size false).getD j false = false := by
      simp only [Array.getD]
      split <;> simp
    rw [this] at hj
    cases hj
end
/-- what is told of an operation's yield -/
inductive Fact where
  | any
  | is (v : Value)
  | row (l : List UInt8)
  | vals (l : List Value)
def Fact.holds : Fact → Value → World → Prop
  | .any, _, _ => True
  | .is x, v, _ => v = x
  | .row l, v, w => ∃ g, v = .slice (some ⟨g, 0, none⟩) l.length l.length ∧ BytesAt w g l
  | .vals l, v, w => ∃ g, v = .slice (some ⟨g, 0, none⟩) l.length l.length ∧ RowAt w g l
theorem Fact.stays (f : Fact) (v : Value) (w w' : World) (hb : Below w.heap.size w w') (h : f.holds v w) : f.holds v w' := by
  cases f with
  | any => trivial
  | is x => exact h
  | row l =>
    obtain ⟨g, hv, hB⟩ := h
    exact ⟨g, hv, hB.below hb⟩
  | vals l =>
    obtain ⟨g, hv, hB⟩ := h
    exact ⟨g, hv, hB.below hb⟩
/-- a table of them -/
def factsOf (T : List Fact) (j : Nat) (v : Value) (w : World) : Prop := (T.getD j .any).holds v w
theorem facts_stay (T : List Fact) (j : Nat) (v : Value) (w w' : World) (hb : Below w.heap.size w w') (h : factsOf T j v w) : factsOf T j v w' := (T.getD j .any).stays v w w' hb h
/-- told of the yield alone -/
def Fact.still : Fact → Bool
  | .row _ => false
  | .vals _ => false
  | _ => true
theorem facts_still {T : List Fact} (hT : T.all Fact.still = true) (j : Nat) (v : Value) (w w' : World) (h : factsOf T j v w) : factsOf T j v w' := by
  unfold factsOf at *
  have hs : (T.getD j .any).still = true := by
    rw [List.getD_eq_getElem?_getD]
    cases hj : T[j]? with
    | none => rfl
    | some f => exact List.all_eq_true.1 hT f (List.mem_of_getElem? hj)
  generalize T.getD j .any = f at *
  cases f with
  | any => trivial
  | is x => exact h
  | row l => cases hs
  | vals l => cases hs
end Go.Proofs.YtmgfpnemamedoaaDoor
namespace Go.Proofs.YtmgfpnemamedoaaDoor
set_option maxRecDepth 20000
open Go.RowKit
section
variable {P : Program} {md : Region.Mode} {ops : Array Oper} {Q : Exit → Act → World → Prop}
/-- the numbers that an operation waits for, by its number -/
def waitsAt (md : Region.Mode) (ops : Array Oper) (i : Nat) : List Nat := match ops[i]? with | some o => waits md o | none => []
/-- with all that those wait for -/
def ancL (md : Region.Mode) (ops : Array Oper) : Nat → List Nat → List Nat
  | 0, l => l
  | f + 1, l => ancL md ops f ((l ++ l.flatMap (waitsAt md ops)).eraseDups)
/-- the operation n waits for all ahead of it, those behind it for it -/
def lateOk (md : Region.Mode) (ops : Array Oper) (n : Nat) : Bool :=
  (List.range n).all (fun j => (ancL md ops ops.size (waitsAt md ops n)).contains j) &&
  (List.range ops.size).all (fun i => decide (i ≤ n) || (ancL md ops ops.size (waitsAt md ops i)).contains n)
theorem ancL_listed {listed : Array Bool} (hc : ∀ j, listed.getD j false = true → ∀ k ∈ waitsAt md ops j, listed.getD k false = true) :
    ∀ f l, (∀ x ∈ l, listed.getD x false = true) → ∀ x ∈ ancL md ops f l, listed.getD x false = true
  | 0, l, hl, x, hx => hl x hx
  | f + 1, l, hl, x, hx => by
    refine ancL_listed hc f _ (fun y hy => ?_) x hx
    have hy' := List.mem_eraseDups.1 hy
    rcases List.mem_append.1 hy' with h | h
    · exact hl y h
    · obtain ⟨z, hz, hyz⟩ := List.mem_flatMap.1 h
      exact hc z (hl z hz) y hyz
theorem late_spec {n : Nat} (h : lateOk md ops n = true) {listed : Array Bool} (hc : ∀ j, listed.getD j false = true → ∀ k ∈ waitsAt md ops j, listed.getD k false = true)
    (hn : listed.getD n false = false) {i : Nat} (hi : i < ops.size) (hni : n ≤ i) (hr : ∀ k ∈ waitsAt md ops i, listed.getD k false = true) : i = n ∧ ∀ j, j < n → listed.getD j false = true := by
  unfold lateOk at h
  rw [Bool.and_eq_true] at h
  obtain ⟨h1, h2⟩ := h
  have key : i = n := by
    have := List.all_eq_true.1 h2 i (List.mem_range.2 hi)
    rw [Bool.or_eq_true] at this
    rcases this with h3 | h3
    · have := of_decide_eq_true h3
      omega
    · have := ancL_listed hc ops.size _ hr n (List.contains_iff_mem.1 h3)
      rw [hn] at this
      cases this
  subst key
  refine ⟨rfl, fun j hj => ?_⟩
  have := List.all_eq_true.1 h1 j (List.mem_range.2 hj)
  exact ancL_listed hc ops.size _ hr j (List.contains_iff_mem.1 this)
/-- the first n are listed -/
def listedTo (n k : Nat) : Array Bool := (List.replicate n true ++ List.replicate k false).toArray
theorem getD_list (l : Array Bool) (j : Nat) (d : Bool) (h : j < l.size) : l.getD j d = l[j] := by
  simp [Array.getD, h]
theorem facts_upto (n k : Nat) (hnk : ops.size = n + (k + 1)) (F : (Nat → Value) → Act) (R : World → World → Prop) (S : World → Prop) (φ : Nat → Value → World → Prop)
    (hw : waitsOk md 0 ops.toList = true) (hl : lateOk md ops n = true) (hφ : ∀ j v w w', R w w' → φ j v w → φ j v w') (hS : ∀ w w', R w w' → S w → S w')
    (hstep : FSteps P md ops Q F R S φ 0 (ops.toList.take n)) (hend : ∀ u w, S w → (∀ j, Nat.blt j n = true → φ j (u j) w) → wpAny P md ops Q (k + 1) (listedTo n (k + 1)) (F u) w) :
    ∀ (fuel : Nat) (listed : Array Bool) (u : Nat → Value) (w : World), listed.size = ops.size → listed.toList.count false = fuel → (∀ j, n ≤ j → listed.getD j false = false) →
      (∀ j, listed.getD j false = true → ∀ k ∈ waitsAt md ops j, listed.getD k false = true) → S w → (∀ j, listed.getD j false = true → φ j (u j) w) → wpAny P md ops Q fuel listed (F u) w := by
  intro fuel
  induction fuel with
  | zero =>
    intro listed u w hz hcnt hB hcl hs hf
    exfalso
    have hn := hB n (Nat.le_refl _)
    rw [getD_list _ _ _ (by omega)] at hn
    have hm : false ∈ listed.toList := by
      rw [← hn]
      exact List.mem_iff_getElem.2 ⟨n, by simp; omega, by simp⟩
    have := List.count_pos_iff.2 hm
    omega
  | succ fuel ih =>
    intro listed u w hz hcnt hB hcl hs hf
    by_cases hall : ∀ j, j < n → listed.getD j false = true
    · have hlist : listed = listedTo n (k + 1) := by
        apply Array.toList_inj.1
        unfold listedTo
        apply List.ext_getElem?
        intro j
        rw [Array.getElem?_toList]
        simp only [List.getElem?_append, List.length_replicate, List.getElem?_replicate]
        by_cases hj : j < n
        · have := hall j hj
          rw [getD_list _ _ _ (by omega)] at this
          rw [if_pos hj, if_pos hj, Array.getElem?_eq_getElem (by omega), this]
        · rw [if_neg hj]
          by_cases hj2 : j < ops.size
          · have := hB j (by omega)
            rw [getD_list _ _ _ (by omega)] at this
            rw [if_pos (by omega), Array.getElem?_eq_getElem (by omega), this]
          · rw [if_neg (by omega), Array.getElem?_eq_none (by omega)]
      have hfuel : fuel + 1 = k + 1 := by
        rw [← hcnt, hlist]
        unfold listedTo
        simp [List.count_append, List.count_replicate]
      rw [hfuel, hlist]
      exact hend u w hs fun j hj => hf j (hall j (by simpa using hj))
    · have nb : ∀ i, i ∈ Region.ready md ops listed → i < n := by
        intro i hi
        obtain ⟨h1, o, ho, hafter⟩ := mem_ready.1 hi
        have hio : i < ops.size := (Array.getElem?_eq_some_iff.1 ho).1
        rcases Nat.lt_or_ge i n with h | h
        · exact h
        · exfalso
          refine hall (late_spec hl hcl (hB n (Nat.le_refl _)) hio h ?_).2
          intro x hx
          unfold waitsAt at hx
          rw [ho] at hx
          obtain ⟨e, he, rfl⟩ := List.mem_map.1 hx
          obtain ⟨he1, he2⟩ := List.mem_filter.1 he
          exact hafter e (by simpa using he1) he2
      have least : ∃ j, j < n ∧ listed.getD j false = false ∧ ∀ i, i < j → listed.getD i false = true := by
        refine Classical.byContradiction fun hno => hall fun j => ?_
        induction j using Nat.strongRecOn with
        | _ j ihj =>
          intro hj
          cases hd : listed.getD j false with
          | true => rfl
          | false => exact absurd ⟨j, hj, hd, fun i hi => ihj i hi (by omega)⟩ hno
      refine ⟨fun hr => ?_, fun i hi => ?_⟩
      · exfalso
        obtain ⟨j, hj, hd, hlt⟩ := least
        have hj' : j < ops.size := by omega
        have ho : ops[j]? = some ops[j] := Array.getElem?_eq_getElem hj'
        have hl2 : ops.toList[j]? = some ops[j] := (Array.getElem?_toList).trans ho
        have hmem : j ∈ Region.ready md ops listed := by
          refine mem_ready.2 ⟨?_, ops[j], ho, fun e he hb => ?_⟩
          · rw [getD_list _ _ _ (by omega)] at hd ⊢
            exact hd
          · have hmw : e.on ∈ waits md ops[j] := List.mem_map.2 ⟨e, List.mem_filter.2 ⟨by simpa using he, hb⟩, rfl⟩
            have := waitsOk_get ops.toList 0 hw j ops[j] hl2 e.on hmw
            exact hlt e.on (by omega)
        rw [hr] at hmem
        cases hmem
      · have hin := nb i hi
        obtain ⟨h1, o, ho, hafter⟩ := mem_ready.1 hi
        have hio : i < ops.size := (Array.getElem?_eq_some_iff.1 ho).1
        have hil : i < listed.size := by omega
        have hl2 : (ops.toList.take n)[i]? = some o := by
          rw [List.getElem?_take_of_lt hin]
          simpa using ho
        have st := hstep.get (ops.toList.take n) 0 i o hl2
        rw [Nat.zero_add] at st
        have hwi : ∀ x ∈ waits md o, listed.getD x false = true := by
          intro x hx
          obtain ⟨e, he, rfl⟩ := List.mem_map.1 hx
          obtain ⟨he1, he2⟩ := List.mem_filter.1 he
          exact hafter e (by simpa using he1) he2
        refine wpOp_step ho fun K hK => st u w hs (fun j hj => hf j (hwi j (List.contains_iff_mem.1 hj))) K (fun v w' hR hv => hK _ _ ?_)
        refine ih _ _ _ (by simpa using hz) ?_ (fun j hj => ?_) (fun j hj x hx => ?_) (hS _ _ hR hs) fun j hj => ?_
        · have h1' : listed.toList[i]? = some false := by
            rw [getD_list _ _ _ hil] at h1
            exact (Array.getElem?_toList).trans ((Array.getElem?_eq_getElem hil).trans (congrArg some h1))
          have := count_set listed.toList i h1'
          rw [Array.toList_setIfInBounds]
          omega
        · rw [getD_set_ne false (show i ≠ j by omega)]
          exact hB j hj
        · have up : ∀ y, listed.getD y false = true → (listed.setIfInBounds i true).getD y false = true := by
            intro y hy
            by_cases hyi : i = y
            · subst hyi
              simp [Array.getD, hil]
            · rw [getD_set_ne false hyi]
              exact hy
          by_cases hji : j = i
          · subst hji
            unfold waitsAt at hx
            rw [ho] at hx
            exact up x (hwi x hx)
          · rw [getD_set_ne false (fun e => hji e.symm)] at hj
            exact up x (hcl j hj x hx)
        · by_cases hji : j = i
          · subst hji
            show φ j (if j = j then v else u j) w'
            rw [if_pos rfl]
            exact hv
          · show φ j (if j = i then v else u j) w'
            rw [if_neg hji]
            rw [getD_set_ne false (fun e => hji e.symm)] at hj
            exact hφ _ _ _ _ hR (hf j hj)
/-- the region's first n operations, by facts -/
theorem wp_region_upto {id : Nat} {a : Act} {w : World} (n k : Nat) (R : World → World → Prop) (S : World → Prop) (φ : Nat → Value → World → Prop)
    (hm : P.follows .mixedOrders = true) (hnk : ops.size = n + (k + 1)) (hw : waitsOk .any 0 ops.toList = true) (hl : lateOk .any ops n = true) (hφ : ∀ j v w w', R w w' → φ j v w → φ j v w') (hS : ∀ w w', R w w' → S w → S w')
    (u : Nat → Value) (hu : fillAct (ops.toList.take n) 0 u a = a) (hs : S w.drew) (F : (Nat → Value) → Act) (hF : ∀ u, fillAct (ops.toList.take n) 0 u a = F u)
    (hstep : FSteps P .any ops Q F R S φ 0 (ops.toList.take n)) (hend : ∀ u w', S w' → (∀ j, Nat.blt j n = true → φ j (u j) w') → wpAny P .any ops Q (k + 1) (listedTo n (k + 1)) (F u) w') : (Code.region id ops true).wp P Q a w := by
  have e : F u = a := (hF u).symm.trans hu
  subst e
  have no : ∀ j, (Array.replicate ops.size false).getD j false = false := by
    intro j
    simp only [Array.getD]
    split <;> simp
  refine wp_region_any hm (facts_upto n k hnk F R S φ hw hl hφ hS hstep hend _ _ u _ (by simp) ?_ (fun j _ => no j) (fun j hj => ?_) hs fun j hj => ?_)
  · simp
  · rw [no j] at hj
    cases hj
  · rw [no j] at hj
    cases hj
end
end Go.Proofs.YtmgfpnemamedoaaDoor
