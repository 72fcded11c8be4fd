/-
The path with whose bytes a text begins, as a plain function; the document's own Get.
-/
import Derived.Test.YtadhiknmkiogjaaDoorCallBase
import Derived.Test.YtadhiknmkiogjaaDoorMix05
import Derived.Lib.QuietBelow
import Derived.Lib.SmallJoins
import Derived.Lib.ItoaNum
import Derived.Lib.IndexBytes
import Derived.IntWalk
namespace Go.Proofs.YtadhiknmkiogjaaDoor
open Go.RowKit Go.Sort
set_option maxRecDepth 20000
/-- the entry that a call's bytes are -/
def entD (s : List UInt8) : Ent := (⟨(getD7 s).2.1.toArray⟩, ((getD7 s).2.2.1 : Int), (getD7 s).2.2.2.1)
/-- what Get finds behind the entries that it has read; k: how many more there may be -/
def getP : Nat → List Ent → List UInt8 → Nat × List Ent
  | 0, _, s => if s.length < 7 then (4, []) else if (getD7 (s.take 7)).1 then (11, []) else (2, [])
  | k + 1, l, s => if s.length < 7 then (4, []) else if (getD7 (s.take 7)).1 then
      (if (getD7 (s.take 7)).2.2.2.2 then (if l.length = 0 then (2, []) else if ordD ((l ++ [entD (s.take 7)]).drop 2) then (0, l ++ [entD (s.take 7)]) else (11, [])) else getP k (l ++ [entD (s.take 7)]) (s.drop 7)) else (2, [])
/-- no more than ten entries; each found where it is right -/
theorem getP_len : ∀ (k : Nat) (l : List Ent) (s : List UInt8), l.length + k = 10 → (getP k l s).2.length ≤ 10
  | 0, l, s, h => by
    unfold getP
    split
    · simp
    · split <;> simp
  | k + 1, l, s, h => by
    unfold getP
    split
    · simp
    · split
      · split
        · split
          · simp
          · split
            · simp; omega
            · simp
        · exact getP_len k _ _ (by simp; omega)
      · simp
/-- the variable p of the document's Get, and its answer's cell -/
structure RGetAt (w W : World) (m : Nat) (tv : Value) (l : List Ent) : Prop where
  out : OutAt w W (m + 1) m 0 67 tv l
  res : KeepAt W w.heap.size 0 (.slice none 0 0)
  rm : w.heap.size < m
theorem RGetAt.below {w W W' : World} {m : Nat} {tv : Value} {l : List Ent} (h : RGetAt w W m tv l) (hb : Below W.heap.size W W') : RGetAt w W' m tv l := ⟨h.out.below hb, h.res.below hb, h.rm⟩
theorem RGetAt.alloc {w W : World} {m : Nat} {tv : Value} {l : List Ent} (h : RGetAt w W m tv l) (o : Obj) : RGetAt w (W.alloc o) m tv l := h.below ((Below.refl _ W).alloc (Nat.le_refl _) _)
theorem RGetAt.grown {w W w1 : World} {m : Nat} {tv v' : Value} {l l' : List Ent} (h : RGetAt w W m tv l) (h1 : OwnE 67 w1 (m + 1) v' l') (hg : W.grownBy w1 tv.ownBlock) (hv : v'.ownBlock = tv.ownBlock ∨ v'.ownBlock = some W.heap.size) :
    (∃ a n c, v' = .slice a n c) ∧ KeepAt w1 m 0 tv ∧ KeepAt w1 w.heap.size 0 (.slice none 0 0) ∧ RGetAt w (w1.setCell ⟨m, 0, none⟩ v') m v' l' := by
  obtain ⟨hs, hc, hf, hz, ho, hk⟩ := h.out.grown h1 hg hv
  have hr := h.res.block (hk w.heap.size (by have := h.rm; omega)) hz
  exact ⟨hs, ⟨hc, hf, Nat.lt_of_lt_of_le h.out.lt hz⟩, hr, ho, hr.other v' (by have := h.rm; omega), h.rm⟩
/-- what Get leaves -/
def RGetTo (w : World) (r : Nat × List Ent) (e : Ending) (w' : World) : Prop :=
  (∃ v, e = .returned (.tuple #[.agg #[v], .int .i64 (if r.1 = 0 then ((7 * r.2.length : Nat) : Int) else 0), .int .i64 (r.1 : Int)]) ∧ Ents w' v r.2 ∧ (r.1 ≠ 0 → v = .slice none 0 0)) ∧ Below w.heap.size w w'
/-- seven bytes of a text -/
theorem part7 (s : ByteArray) (at_ : Nat) (h : at_ + 7 ≤ s.size) : ∃ p : ByteArray, p.data.toList = (s.data.toList.drop at_).take 7 ∧ p.size = 7 ∧ ∀ W, (Instr.slice 9 (.string s) (some (.int .i64 (at_ : Int))) (some (.int .i64 ((at_ : Int) + 7))) none).run Tryd.prog W = .ok (.string p) W := by
  refine ⟨s.extract at_ (at_ + 7), ?_, ?_, fun W => ?_⟩
  · rw [Lib.extract_data]
    congr 1
    omega
  · rw [ByteArray.size_extract]
    omega
  · have k := run_slice_string (P := Tryd.prog) (w := W) 9 s .i64 .i64 (at_ : Int) ((at_ : Int) + 7) Tryd.underlying9 (by omega) (by omega) (by omega)
    rw [k]
    congr 2
theorem getP_short : ∀ (k : Nat) (l : List Ent) (s : List UInt8), s.length < 7 → getP k l s = (4, [])
  | 0, _, _, h => by unfold getP; rw [if_pos h]
  | k + 1, _, _, h => by unfold getP; rw [if_pos h]
theorem getP_bad : ∀ (k : Nat) (l : List Ent) (s : List UInt8), 7 ≤ s.length → (getD7 (s.take 7)).1 = false → getP k l s = (2, [])
  | 0, _, _, h, hg => by unfold getP; rw [if_neg (by omega), hg]; rfl
  | k + 1, _, _, h, hg => by unfold getP; rw [if_neg (by omega), hg]; rfl
theorem getP_full (l : List Ent) (s : List UInt8) (h : 7 ≤ s.length) (hg : (getD7 (s.take 7)).1 = true) : getP 0 l s = (11, []) := by unfold getP; rw [if_neg (by omega), if_pos hg]
theorem getP_next (k : Nat) (l : List Ent) (s : List UInt8) (h : 7 ≤ s.length) {bl : List UInt8} {n : Nat} {mk : Bool} (hg : getD7 (s.take 7) = (true, bl, n, mk, false)) : getP (k + 1) l s = getP k (l ++ [(⟨bl.toArray⟩, (n : Int), mk)]) (s.drop 7) := by
  conv => lhs; unfold getP
  rw [if_neg (by omega)]
  unfold entD
  rw [hg]
  rfl
theorem getP_last (k : Nat) (l : List Ent) (s : List UInt8) (h : 7 ≤ s.length) {bl : List UInt8} {n : Nat} {mk : Bool} (hg : getD7 (s.take 7) = (true, bl, n, mk, true)) :
    getP (k + 1) l s = if l.length = 0 then (2, []) else if ordD ((l ++ [((⟨bl.toArray⟩ : ByteArray), (n : Int), mk)] : List Ent).drop 2) then (0, l ++ [((⟨bl.toArray⟩ : ByteArray), (n : Int), mk)]) else (11, []) := by
  conv => lhs; unfold getP
  rw [if_neg (by omega)]
  unfold entD
  rw [hg]
  rfl
/-- the same: and the entries are the call's own -/
def RGetO (w : World) (r : Nat × List Ent) (e : Ending) (w' : World) : Prop :=
  (∃ v, e = .returned (.tuple #[.agg #[v], .int .i64 (if r.1 = 0 then ((7 * r.2.length : Nat) : Int) else 0), .int .i64 (r.1 : Int)]) ∧ OwnE 67 w' w.heap.size v r.2 ∧ (r.1 ≠ 0 → v = .slice none 0 0)) ∧ Below w.heap.size w w'
set_option maxHeartbeats 4000000 in
theorem rpget_own (s : ByteArray) (w : World) :
    Calls Tryd.prog 44 #[.string s] w fun e w' => RGetO w (getP 10 [] s.data.toList) e w' := by
  have HG := Lib.hid (fun s W => rget_any s W)
  have hz : s.data.toList.length = s.size := by simp
  obtain ⟨W1, hW1⟩ : ∃ W1, W1 = w.alloc (.cells #[.slice none 0 0] 70) := ⟨_, rfl⟩
  have hs1 : W1.heap.size = w.heap.size + 1 := by rw [hW1]; simp
  have hb1 : Below w.heap.size w W1 := by rw [hW1]; exact (Below.refl _ w).alloc (Nat.le_refl _) _
  have k0 : KeepAt W1 w.heap.size 0 (.slice none 0 0) := by rw [hW1]; exact ⟨World.cell?_alloc_at _ _ _ _ rfl, World.frozen?_alloc_at _ _ _ _ rfl, by simp⟩
  have HA := Lib.hid (show RGetAt w (W1.alloc (.cells #[.slice none 0 0] 70)) (w.heap.size + 1) (.slice none 0 0) [] from
    ⟨⟨by rw [← hs1]; exact World.cell?_alloc_at _ _ _ _ rfl, by rw [← hs1]; exact World.frozen?_alloc_at _ _ _ _ rfl, OwnE.nil _ _ _, by simp [Value.ownBlock], hb1.alloc hb1.size _, by omega, by omega, by simp [hs1], by simp [hs1]⟩, k0.alloc _, by omega⟩)
  clear hs1 hb1 k0
  subst hW1
  obtain ⟨G, hG⟩ : ∃ G, G = getP 10 [] s.data.toList := ⟨_, rfl⟩
  rw [← hG]
  have HGG := Lib.hid hG
  have HZ := Lib.hid hz
  clear hG hz
  go_enter Tryd.func44, Tryd.ntmps44
  go_wp2
  go_loopw [6] (fun i wx => ∃ at_ k : Nat, i = .int .i64 (at_ : Int) ∧ at_ + 7 * k = 70 ∧ ∃ tv l, Hid (l.length + k = 10 ∧ G = getP k l (s.data.toList.drop at_) ∧ RGetAt w wx (w.heap.size + 1) tv l)) (fun i _ => 71 - (intOf i).toNat)
  case atStart => exact ⟨0, 10, rfl, by omega, _, [], Lib.hid ⟨rfl, HGG.out, HA.out⟩⟩
  case round =>
    obtain ⟨at_, k, rfl, hk, tv, l, HQ⟩ := hrel
    clear HA HGG
    obtain ⟨ta, tc, htv, -⟩ := HQ.out.2.2.out.own.ents
    have hlk := HQ.out.1
    obtain ⟨r0, rf, rl⟩ := HQ.out.2.2.res
    by_cases h7 : at_ + 7 ≤ s.size
    · have d7 : decide ((s.size : Int) < (at_ : Int) + 7) = false := decide_eq_false (by omega)
      obtain ⟨p, hp, hps, hsl⟩ := part7 s at_ h7
      have hdl : 7 ≤ (s.data.toList.drop at_).length := by rw [List.length_drop, HZ.out]; omega
      have hgp := fun W => HG.out p W
      rw [hp] at hgp
      have HBAD := Lib.hid (getP_bad k l _ hdl)
      have HFULL := Lib.hid (getP_full l _ hdl)
      have HNEXT := Lib.hid (fun k bl n mk => getP_next k l (s.data.toList.drop at_) hdl (bl := bl) (n := n) (mk := mk))
      have HLAST := Lib.hid (fun k bl n mk => getP_last k l (s.data.toList.drop at_) hdl (bl := bl) (n := n) (mk := mk))
      generalize hgg : getD7 ((s.data.toList.drop at_).take 7) = g at *
      clear hgg
      obtain ⟨ok, bl, n, mk, la⟩ := g
      unfold getV at hgp
      dsimp only at hgp HBAD HFULL
      have HGP := Lib.hid hgp
      clear hgp hp hps
      have e10 : ((l.length : Int) == 10) = decide (k = 0) := by rw [Bool.eq_iff_iff, beq_iff_eq, decide_eq_true_eq]; omega
      subst htv
      have HL0 := Lib.hid (show l.length + 1 ≤ 100000 from by omega)
      cases ok
      · have hGv : G = (2, []) := HQ.out.2.1.trans (HBAD.out rfl)
        have HGV := Lib.hid hGv
        clear hGv
        go_wp2_with (go_at_call 61; (with_reducible refine (HGP.out _).mono ?_); rintro e w1 ⟨rfl, hb⟩; have HQ1 := Lib.hid ((HQ.out.2.2.below hb).alloc (.cells #[.string ⟨bl.toArray⟩, .int .i64 (n : Int)] 23)); clear hb r0 rf rl; obtain ⟨r0, rf, rl⟩ := HQ1.out.res)
        have z0 := set_here (v := .slice none 0 0) r0
        exact bodyPost_ret (v := .tuple #[.agg #[.slice none 0 0], .int .i64 0, .int .i64 2]) (by simp [results, Tryd.results44, go_sem, z0]) rfl (by rw [HGV.out]; exact ⟨⟨_, rfl, OwnE.nil _ _ _, fun _ => rfl⟩, HQ1.out.out.bel.setCell (p := ⟨w.heap.size, 0, none⟩) (Nat.le_refl _) _⟩)
      · cases k with
        | zero =>
          have hGv : G = (11, []) := HQ.out.2.1.trans (HFULL.out rfl)
          have HGV := Lib.hid hGv
          have e10' : ((l.length : Int) == 10) = true := by rw [e10]; rfl
          obtain ⟨o0, -, -⟩ := (show KeepAt wr (w.heap.size + 1) 0 (.slice ta l.length tc) from ⟨HQ.out.2.2.out.cell, HQ.out.2.2.out.free, HQ.out.2.2.out.lt⟩)
          clear hGv e10
          go_wp2_with (go_at_call 61; (with_reducible refine (HGP.out _).mono ?_); rintro e w1 ⟨rfl, hb⟩; have HQ1 := Lib.hid ((HQ.out.2.2.below hb).alloc (.cells #[.string ⟨bl.toArray⟩, .int .i64 (n : Int)] 23)); clear hb r0 rf rl o0; obtain ⟨r0, rf, rl⟩ := HQ1.out.res; have o0 := HQ1.out.out.cell)
          have z0 := set_here (v := .slice none 0 0) r0
          exact bodyPost_ret (v := .tuple #[.agg #[.slice none 0 0], .int .i64 0, .int .i64 11]) (by simp [results, Tryd.results44, go_sem, z0]) rfl (by rw [HGV.out]; exact ⟨⟨_, rfl, OwnE.nil _ _ _, fun _ => rfl⟩, HQ1.out.out.bel.setCell (p := ⟨w.heap.size, 0, none⟩) (Nat.le_refl _) _⟩)
        | succ k =>
          have e10' : ((l.length : Int) == 10) = false := by rw [e10]; rfl
          obtain ⟨B, hB⟩ : ∃ B : ByteArray, B = ⟨bl.toArray⟩ := ⟨_, rfl⟩
          obtain ⟨l', hl'⟩ : ∃ l' : List Ent, l' = l ++ [(B, (n : Int), mk)] := ⟨_, rfl⟩
          rw [← hB] at HGP
          have HLP := Lib.hid hl'
          have HLN := Lib.hid (show l'.length = l.length + 1 from by rw [hl']; simp)
          have HBB := Lib.hid hB
          have hl1 : l'.length ≤ 10 := by have := HLN.out; omega
          clear hl' hB e10
          cases la
          · have hGv : G = getP k l' (s.data.toList.drop (at_ + 7)) := by
              rw [HQ.out.2.1, HNEXT.out k bl n mk rfl, HLP.out, HBB.out, List.drop_drop]
            have HGV := Lib.hid hGv
            clear hGv
            go_wp2_with (first
              | (go_at_call 61; (with_reducible refine (HGP.out _).mono ?_); rintro e w1 ⟨rfl, hb⟩; have HQ1 := Lib.hid ((HQ.out.2.2.below hb).alloc (.cells #[.string B, .int .i64 (n : Int)] 23)); clear hb r0 rf rl; obtain ⟨r0, rf, rl⟩ := HQ1.out.res; have o0 := HQ1.out.out.cell; have o1 := HQ1.out.out.free; have o2 := HQ1.out.out.lt)
                  | (at_builtin; have HQ2 := Lib.hid (HQ1.out.alloc (.cells #[.string B, .int .i64 (n : Int), .bool mk] 67)); have HN2 := Lib.hid (EntsAt.new1 (w1.alloc (.cells #[.string B, .int .i64 (n : Int)] 23)) (w1.heap.size + 1) (by simp) B (n : Int) mk 67); refine wpList_append_ents infoE Tryd.underlying68 _ rfl (.tmp 40) (.tmp 44) rfl (w.heap.size + 1 + 1) _ l [(B, (n : Int), mk)] rfl HQ2.out.out.own _ _ rfl HN2.out HL0.out HQ2.out.out.bw ?_; intro v' w2 hown hgr hov; rw [← HLP.out] at hown; obtain ⟨va, vc, hvv, -⟩ := hown.ents; subst hvv; obtain ⟨-, ⟨t0, tf, tl⟩, ⟨r0', rf', rl'⟩, hq3⟩ := HQ2.out.grown hown hgr hov; have HQ3 := Lib.hid hq3; have o0' := HQ3.out.out.cell; have hres := HQ3.out.res; have HRES := Lib.hid hres; obtain ⟨y0, yf, yl⟩ := hres; clear hown hgr hov hq3 HQ2 HN2))
            go_roundw
            case rel => exact ⟨at_ + 7, k, by go_num, by omega, _, l', Lib.hid ⟨by have := HLN.out; omega, HGV.out, HQ3.out⟩⟩
            case measure => simp [intOf]; omega
          · have hGv := HQ.out.2.1.trans (HLAST.out k bl n mk rfl)
            rw [← HBB.out, ← HLP.out] at hGv
            by_cases h0 : l.length = 0
            · rw [if_pos h0] at hGv
              have HGV := Lib.hid hGv
              have e1 : ((l'.length : Int) == 1) = true := by rw [beq_iff_eq]; have := HLN.out; omega
              clear hGv h0 hlk
              go_wp2_with (first
                | (go_at_call 61; (with_reducible refine (HGP.out _).mono ?_); rintro e w1 ⟨rfl, hb⟩; have HQ1 := Lib.hid ((HQ.out.2.2.below hb).alloc (.cells #[.string B, .int .i64 (n : Int)] 23)); clear hb r0 rf rl; obtain ⟨r0, rf, rl⟩ := HQ1.out.res; have o0 := HQ1.out.out.cell; have o1 := HQ1.out.out.free; have o2 := HQ1.out.out.lt)
                    | (at_builtin; have HQ2 := Lib.hid (HQ1.out.alloc (.cells #[.string B, .int .i64 (n : Int), .bool mk] 67)); have HN2 := Lib.hid (EntsAt.new1 (w1.alloc (.cells #[.string B, .int .i64 (n : Int)] 23)) (w1.heap.size + 1) (by simp) B (n : Int) mk 67); refine wpList_append_ents infoE Tryd.underlying68 _ rfl (.tmp 40) (.tmp 44) rfl (w.heap.size + 1 + 1) _ l [(B, (n : Int), mk)] rfl HQ2.out.out.own _ _ rfl HN2.out HL0.out HQ2.out.out.bw ?_; intro v' w2 hown hgr hov; rw [← HLP.out] at hown; obtain ⟨va, vc, hvv, -⟩ := hown.ents; subst hvv; obtain ⟨-, ⟨t0, tf, tl⟩, ⟨r0', rf', rl'⟩, hq3⟩ := HQ2.out.grown hown hgr hov; have HQ3 := Lib.hid hq3; have o0' := HQ3.out.out.cell; have hres := HQ3.out.res; have HRES := Lib.hid hres; obtain ⟨y0, yf, yl⟩ := hres; clear hown hgr hov hq3 HQ2 HN2))
              have z0 := set_here (v := .slice none 0 0) y0
              exact bodyPost_ret (v := .tuple #[.agg #[.slice none 0 0], .int .i64 0, .int .i64 2]) (by simp [results, Tryd.results44, go_sem, z0]) rfl (by rw [HGV.out]; exact ⟨⟨_, rfl, OwnE.nil _ _ _, fun _ => rfl⟩, HQ3.out.out.bel.setCell (p := ⟨w.heap.size, 0, none⟩) (Nat.le_refl _) _⟩)
            · rw [if_neg h0] at hGv
              have e1 : ((l'.length : Int) == 1) = false := by rw [beq_eq_false_iff_ne]; have := HLN.out; omega
              have HORD := Lib.hid (fun a c W (h : EntsAt W a c l') => rordered_any a c l' W (by omega) h)
              generalize ordD (l'.drop 2) = O at *
              cases O
              · have HGV := Lib.hid (show G = (11, []) from hGv)
                clear hGv
                go_wp2_with (first
                  | (go_at_call 55; (with_reducible refine (HORD.out va vc _ (ents_of_own HQ3.out.out.own)).mono ?_); rintro e w3 ⟨rfl, rfl⟩)
                  | (go_at_call 61; (with_reducible refine (HGP.out _).mono ?_); rintro e w1 ⟨rfl, hb⟩; have HQ1 := Lib.hid ((HQ.out.2.2.below hb).alloc (.cells #[.string B, .int .i64 (n : Int)] 23)); clear hb r0 rf rl; obtain ⟨r0, rf, rl⟩ := HQ1.out.res; have o0 := HQ1.out.out.cell; have o1 := HQ1.out.out.free; have o2 := HQ1.out.out.lt)
                      | (at_builtin; have HQ2 := Lib.hid (HQ1.out.alloc (.cells #[.string B, .int .i64 (n : Int), .bool mk] 67)); have HN2 := Lib.hid (EntsAt.new1 (w1.alloc (.cells #[.string B, .int .i64 (n : Int)] 23)) (w1.heap.size + 1) (by simp) B (n : Int) mk 67); refine wpList_append_ents infoE Tryd.underlying68 _ rfl (.tmp 40) (.tmp 44) rfl (w.heap.size + 1 + 1) _ l [(B, (n : Int), mk)] rfl HQ2.out.out.own _ _ rfl HN2.out HL0.out HQ2.out.out.bw ?_; intro v' w2 hown hgr hov; rw [← HLP.out] at hown; obtain ⟨va, vc, hvv, -⟩ := hown.ents; subst hvv; obtain ⟨-, ⟨t0, tf, tl⟩, ⟨r0', rf', rl'⟩, hq3⟩ := HQ2.out.grown hown hgr hov; have HQ3 := Lib.hid hq3; have o0' := HQ3.out.out.cell; have hres := HQ3.out.res; have HRES := Lib.hid hres; obtain ⟨y0, yf, yl⟩ := hres; clear hown hgr hov hq3 HQ2 HN2))
                have z0 := set_here (v := .slice none 0 0) y0
                exact bodyPost_ret (v := .tuple #[.agg #[.slice none 0 0], .int .i64 0, .int .i64 11]) (by simp [results, Tryd.results44, go_sem, z0]) rfl (by rw [HGV.out]; exact ⟨⟨_, rfl, OwnE.nil _ _ _, fun _ => rfl⟩, HQ3.out.out.bel.setCell (p := ⟨w.heap.size, 0, none⟩) (Nat.le_refl _) _⟩)
              · have HGV := Lib.hid (show G = (0, l') from hGv)
                clear hGv
                go_wp2_with (first
                  | (go_at_call 55; (with_reducible refine (HORD.out va vc _ (ents_of_own HQ3.out.out.own)).mono ?_); rintro e w3 ⟨rfl, rfl⟩)
                  | (go_at_call 61; (with_reducible refine (HGP.out _).mono ?_); rintro e w1 ⟨rfl, hb⟩; have HQ1 := Lib.hid ((HQ.out.2.2.below hb).alloc (.cells #[.string B, .int .i64 (n : Int)] 23)); clear hb r0 rf rl; obtain ⟨r0, rf, rl⟩ := HQ1.out.res; have o0 := HQ1.out.out.cell; have o1 := HQ1.out.out.free; have o2 := HQ1.out.out.lt)
                      | (at_builtin; have HQ2 := Lib.hid (HQ1.out.alloc (.cells #[.string B, .int .i64 (n : Int), .bool mk] 67)); have HN2 := Lib.hid (EntsAt.new1 (w1.alloc (.cells #[.string B, .int .i64 (n : Int)] 23)) (w1.heap.size + 1) (by simp) B (n : Int) mk 67); refine wpList_append_ents infoE Tryd.underlying68 _ rfl (.tmp 40) (.tmp 44) rfl (w.heap.size + 1 + 1) _ l [(B, (n : Int), mk)] rfl HQ2.out.out.own _ _ rfl HN2.out HL0.out HQ2.out.out.bw ?_; intro v' w2 hown hgr hov; rw [← HLP.out] at hown; obtain ⟨va, vc, hvv, -⟩ := hown.ents; subst hvv; obtain ⟨-, ⟨t0, tf, tl⟩, ⟨r0', rf', rl'⟩, hq3⟩ := HQ2.out.grown hown hgr hov; have HQ3 := Lib.hid hq3; have o0' := HQ3.out.out.cell; have hres := HQ3.out.res; have HRES := Lib.hid hres; obtain ⟨y0, yf, yl⟩ := hres; clear hown hgr hov hq3 HQ2 HN2))
                have z0 := set_here (v := .slice va l'.length vc) y0
                have HOW := Lib.hid (HQ3.out.out.own.grown (grown_set (grown_refl _ (some w.heap.size)) (o := 0) (.slice va l'.length vc)) (fun g hv e => by have h1 := (HQ3.out.out.own.ge hv).1; have e' : w.heap.size = g := Option.some.inj e; omega))
                have HE7 := Lib.hid (show ((7 * l'.length : Nat) : Int) = (at_ : Int) + 7 from by have := HLN.out; omega)
                exact bodyPost_ret (v := .tuple #[.agg #[.slice va l'.length vc], .int .i64 ((at_ : Int) + 7), .int .i64 0]) (by simp [results, Tryd.results44, go_sem, z0]) rfl (by
                  rw [HGV.out]
                  exact ⟨⟨.slice va l'.length vc, by rw [if_pos rfl, HE7.out]; rfl, HOW.out.base (by omega), fun h => absurd rfl h⟩, HQ3.out.out.bel.setCell (p := ⟨w.heap.size, 0, none⟩) (Nat.le_refl _) _⟩)
    · have d7 : decide ((s.size : Int) < (at_ : Int) + 7) = true := decide_eq_true (by omega)
      have HGV := Lib.hid (show G = (4, []) from HQ.out.2.1.trans (getP_short k l _ (by rw [List.length_drop, HZ.out]; omega)))
      go_wp2
      have z0 := set_here (v := .slice none 0 0) r0
      exact bodyPost_ret (v := .tuple #[.agg #[.slice none 0 0], .int .i64 0, .int .i64 4]) (by simp [results, Tryd.results44, go_sem, z0]) rfl (by rw [HGV.out]; exact ⟨⟨_, rfl, OwnE.nil _ _ _, fun _ => rfl⟩, HQ.out.2.2.out.bel.setCell (p := ⟨w.heap.size, 0, none⟩) (Nat.le_refl _) _⟩)
theorem rpget_any (s : ByteArray) (w : World) :
    Calls Tryd.prog 44 #[.string s] w fun e w' => RGetTo w (getP 10 [] s.data.toList) e w' :=
  (rpget_own s w).mono fun _ _ ⟨⟨v, h1, h2, h3⟩, h4⟩ => ⟨⟨v, h1, h2.ents, h3⟩, h4⟩
end Go.Proofs.YtadhiknmkiogjaaDoor
