/-
The landed code's Parse of paths.
-/
import Derived.Test.YteiappicdnekoaaDoorPathCDigis
namespace Go.Proofs.YteiappicdnekoaaDoor
open Go.RowKit Go.Sort
set_option maxRecDepth 20000
/-- the path of a word, or what is wrong -/
def parseP (s : List UInt8) : Nat × List Ent :=
  if (Lib.cut s [62]).2.2 then match wordsD (Lib.cut s [62]).2.1 with
    | [] => (2, [])
    | t :: ws => if (readD (Lib.cut s [62]).1).1 && (readD t).1 then
        (if (stepsP 8 [] 0 ws).1 = 0 then (0, markE (callE (readD t)) :: callE (readD (Lib.cut s [62]).1) :: (stepsP 8 [] 0 ws).2) else ((stepsP 8 [] 0 ws).1, []))
      else (12, [])
  else (2, [])
theorem P7.put01 {W : World} {m : Nat} {v0 v1 v2 v3 v4 v5 v6 : Value} (h : P7 W m v0 v1 v2 v3 v4 v5 v6) (u0 u1 : Value) : P7 ((W.setCell ⟨m, 0, none⟩ u0).setCell ⟨m, 1, none⟩ u1) m u0 u1 v2 v3 v4 v5 v6 :=
  ⟨(h.k0.put _).set _ (by omega), (h.k1.set _ (by omega)).put _, (h.k2.set _ (by omega)).set _ (by omega), (h.k3.set _ (by omega)).set _ (by omega), (h.k4.set _ (by omega)).set _ (by omega), (h.k5.set _ (by omega)).set _ (by omega), (h.k6.set _ (by omega)).set _ (by omega)⟩
theorem P7.put23 {W : World} {m : Nat} {v0 v1 v2 v3 v4 v5 v6 : Value} (h : P7 W m v0 v1 v2 v3 v4 v5 v6) (u2 u3 : Value) : P7 ((W.setCell ⟨m, 2, none⟩ u2).setCell ⟨m, 3, none⟩ u3) m v0 v1 u2 u3 v4 v5 v6 :=
  ⟨(h.k0.set _ (by omega)).set _ (by omega), (h.k1.set _ (by omega)).set _ (by omega), (h.k2.put _).set _ (by omega), (h.k3.set _ (by omega)).put _, (h.k4.set _ (by omega)).set _ (by omega), (h.k5.set _ (by omega)).set _ (by omega), (h.k6.set _ (by omega)).set _ (by omega)⟩
/-- the answer's cells, and the path that is made -/
structure PaAt (w W : World) (m : Nat) (v0 v1 v2 v3 v6 : Value) : Prop where
  res : P7 W w.heap.size (.string ⟨#[]⟩) (.int .i64 0) (.string ⟨#[]⟩) (.int .i64 0) (.bool false) (.bool false) (.slice none 0 0)
  p : P7 W m v0 v1 v2 v3 (.bool true) (.bool false) v6
  bel : Below w.heap.size w W
  rm : w.heap.size < m
theorem PaAt.below {w W W' : World} {m : Nat} {v0 v1 v2 v3 v6 : Value} (h : PaAt w W m v0 v1 v2 v3 v6) (hb : Below W.heap.size W W') : PaAt w W' m v0 v1 v2 v3 v6 := ⟨h.res.below hb, h.p.below hb, h.bel.trans (hb.mono h.bel.size), h.rm⟩
theorem PaAt.put01 {w W : World} {m : Nat} {v0 v1 v2 v3 v6 : Value} (h : PaAt w W m v0 v1 v2 v3 v6) (u0 u1 : Value) : PaAt w ((W.setCell ⟨m, 0, none⟩ u0).setCell ⟨m, 1, none⟩ u1) m u0 u1 v2 v3 v6 := by
  have hm := h.rm
  exact ⟨(h.res.other _ (by omega)).other _ (by omega), h.p.put01 _ _, (h.bel.setCell (p := ⟨m, 0, none⟩) (by show w.heap.size ≤ m; omega) _).setCell (p := ⟨m, 1, none⟩) (by show w.heap.size ≤ m; omega) _, hm⟩
theorem PaAt.put23 {w W : World} {m : Nat} {v0 v1 v2 v3 v6 : Value} (h : PaAt w W m v0 v1 v2 v3 v6) (u2 u3 : Value) : PaAt w ((W.setCell ⟨m, 2, none⟩ u2).setCell ⟨m, 3, none⟩ u3) m v0 v1 u2 u3 v6 := by
  have hm := h.rm
  exact ⟨(h.res.other _ (by omega)).other _ (by omega), h.p.put23 _ _, (h.bel.setCell (p := ⟨m, 2, none⟩) (by show w.heap.size ≤ m; omega) _).setCell (p := ⟨m, 3, none⟩) (by show w.heap.size ≤ m; omega) _, hm⟩
theorem PaAt.put6 {w W : World} {m : Nat} {v0 v1 v2 v3 v6 : Value} (h : PaAt w W m v0 v1 v2 v3 v6) (u : Value) : PaAt w (W.setCell ⟨m, 6, none⟩ u) m v0 v1 v2 v3 u := by
  have hm := h.rm
  exact ⟨h.res.other _ (by omega), h.p.put6 _, h.bel.setCell (p := ⟨m, 6, none⟩) (by show w.heap.size ≤ m; omega) _, hm⟩
theorem PaAt.start {w w2 : World} (hr : P7 w2 w.heap.size (.string ⟨#[]⟩) (.int .i64 0) (.string ⟨#[]⟩) (.int .i64 0) (.bool false) (.bool false) (.slice none 0 0)) (hb : Below w.heap.size w w2) (T : TypeId) :
    PaAt w (w2.alloc (.cells #[.string ⟨#[]⟩, .int .i64 0, .string ⟨#[]⟩, .int .i64 0, .bool true, .bool false, .slice none 0 0] T)) w2.heap.size (.string ⟨#[]⟩) (.int .i64 0) (.string ⟨#[]⟩) (.int .i64 0) (.slice none 0 0) :=
  ⟨hr.alloc _, P7.new w2 _ rfl _ _ _ _ _ _ _ _, hb.alloc hb.size _, hr.k0.lt⟩
/-- what Parse leaves -/
def PParTo (w : World) (r : Nat × List Ent) (e : Ending) (w' : World) : Prop :=
  (r.1 ≠ 0 → e = .returned (.tuple #[zeroP, .int .i64 (r.1 : Int)])) ∧
  (r.1 = 0 → ∃ (x y : Ent) (D : List Ent) (da : Option Addr) (dc : Nat), r.2 = (x.1, x.2.1, true) :: (y.1, y.2.1, false) :: D ∧ e = .returned (.tuple #[.agg #[.string x.1, .int .i64 x.2.1, .string y.1, .int .i64 y.2.1, .bool true, .bool false, .slice da D.length dc], .int .i64 0]) ∧ OwnE 65 w' w.heap.size (.slice da D.length dc) D) ∧ Below w.heap.size w w'
set_option maxHeartbeats 1000000 in
theorem pparse_any (s : ByteArray) (w : World) (hV : VarsOk w) (hs : s.size ≤ 300) :
    Calls Tryd.prog 30 #[.string s] w fun e w' => PParTo w (parseP s.data.toList) e w' := by
  obtain ⟨x, y, f, hc, hx, hxs, hf0, hf1⟩ := parted 62 s
  have HCUT := Lib.hid (fun W (hb : Below w.heap.size w W) => cut_sep 62 s w hV hs x y f hc W hb)
  have HB0 := Lib.hid ((Below.refl _ w).alloc (Nat.le_refl _) (.cells #[.string ⟨#[]⟩, .int .i64 0, .string ⟨#[]⟩, .int .i64 0, .bool false, .bool false, .slice none 0 0] 26))
  have HR0 := Lib.hid (P7.new w w.heap.size rfl (.string ⟨#[]⟩) (.int .i64 0) (.string ⟨#[]⟩) (.int .i64 0) (.bool false) (.bool false) (.slice none 0 0) 26)
  obtain ⟨G, hG⟩ : ∃ G, G = parseP s.data.toList := ⟨_, rfl⟩
  rw [← hG]
  unfold parseP at hG
  rw [hc] at hG
  dsimp only at hG
  cases f
  · have HGV := Lib.hid (show G = (2, []) from by rw [hG]; rfl)
    clear hG hc hx hxs hf0 hf1
    go_enter Tryd.func30, Tryd.ntmps30
    obtain ⟨⟨p0, q0, pl⟩, ⟨p1, q1, -⟩, ⟨p2, q2, -⟩, ⟨p3, q3, -⟩, ⟨p4, q4, -⟩, ⟨p5, q5, -⟩, ⟨p6, q6, -⟩⟩ := HR0.out
    go_wp2_with (go_at_call 48; (with_reducible refine (HCUT.out _ HB0.out).mono ?_); rintro e w1 ⟨rfl, hb⟩; have HB := Lib.hid (HB0.out.trans (hb.mono HB0.out.size)); have HR := Lib.hid (HR0.out.below hb); clear hb p0 q0 pl p1 q1 p2 q2 p3 q3 p4 q4 p5 q5 p6 q6; obtain ⟨⟨p0, q0, pl⟩, ⟨p1, q1, -⟩, ⟨p2, q2, -⟩, ⟨p3, q3, -⟩, ⟨p4, q4, -⟩, ⟨p5, q5, -⟩, ⟨p6, q6, -⟩⟩ := HR.out)
    have S7 := stored7 (m := w.heap.size) (.string ⟨#[]⟩) (.int .i64 0) (.string ⟨#[]⟩) (.int .i64 0) (.bool false) (.bool false) (.slice none 0 0) HR.out
    have HBF := Lib.hid (set7_below (m := w.heap.size) HB.out (Nat.le_refl _) (.string ⟨#[]⟩) (.int .i64 0) (.string ⟨#[]⟩) (.int .i64 0) (.bool false) (.bool false) (.slice none 0 0))
    exact bodyPost_ret (v := .tuple #[zeroP, .int .i64 2]) (by simp [results, Tryd.results30, go_sem, zeroP, S7.k0.cell, S7.k1.cell, S7.k2.cell, S7.k3.cell, S7.k4.cell, S7.k5.cell, S7.k6.cell]) rfl (by rw [HGV.out]; exact ⟨fun _ => rfl, fun h => (by cases h), HBF.out⟩)
  · obtain ⟨x2, y2, f2, hc2, hx2, hx2s, hg0, hg1⟩ := parted 44 y
    have hys : y.size ≤ 300 := by have := (hf1 rfl).2; omega
    have HCUT2 := Lib.hid (fun W (hb : Below w.heap.size w W) => cut_sep 44 y w hV hys x2 y2 f2 hc2 W hb)
    have hwd := words_cut y x2 y2 f2 hx2 hg0 hg1
    rw [if_pos rfl, hwd] at hG
    dsimp only at hG
    have hp1 := fun W (hb : Below w.heap.size w W) => cparse_ok x W (hV.below hb) (by omega)
    have hp2 := fun W (hb : Below w.heap.size w W) => cparse_ok x2 W (hV.below hb) (by omega)
    have hy2 : y2.size ≤ 300 := by
      cases f2
      · rw [(hg0 rfl).2]; decide
      · have := (hg1 rfl).2; omega
    have HDG := Lib.hid (fun W (hb : Below w.heap.size w W) => pdigis_any y2 W (hV.below hb) hy2)
    unfold readE at hp1 hp2
    generalize readD x.data.toList = r1 at *
    generalize readD x2.data.toList = r2 at *
    obtain ⟨o1, b1, n1⟩ := r1
    obtain ⟨o2, b2, n2⟩ := r2
    unfold callE at hG
    dsimp only at hG hp1 hp2
    obtain ⟨B1, hB1⟩ : ∃ B : ByteArray, B = ⟨b1.toArray⟩ := ⟨_, rfl⟩
    obtain ⟨B2, hB2⟩ : ∃ B : ByteArray, B = ⟨b2.toArray⟩ := ⟨_, rfl⟩
    rw [← hB1] at hp1 hG
    rw [← hB2] at hp2 hG
    have e12 : ((12 : Int) != 0) = true := rfl
    have e00 : ((0 : Int) != 0) = false := rfl
    clear hc hx hxs hf0 hf1 hc2 hx2 hx2s hg0 hg1 hwd hB1 hB2
    cases o1
    · have HGV := Lib.hid (show G = (12, []) from by rw [hG]; rfl)
      have HP1 := Lib.hid (show ∀ W, Below w.heap.size w W → Calls Tryd.prog 49 #[.string x] W fun e w' => e = .returned (.tuple #[.agg #[.string B1, .int .i64 (n1 : Int)], .int .i64 12]) ∧ Below W.heap.size W w' from hp1)
      clear hp1 hp2 hG
      go_enter Tryd.func30, Tryd.ntmps30
      have HNZ := Lib.hid (show ¬ (12, ([] : List Ent)).1 = 0 from by decide)
      go_wp2_with (first
        | (go_at_call 48; (with_reducible refine (HCUT.out _ HB0.out).mono ?_); rintro e w1 ⟨rfl, hb⟩; have HB := Lib.hid (HB0.out.trans (hb.mono HB0.out.size)); have HR := Lib.hid (HR0.out.below hb); clear hb HCUT HB0 HR0)
            | (go_at_call 48; (with_reducible refine (HCUT2.out _ HB.out).mono ?_); rintro e w2 ⟨rfl, hb⟩; have HA := Lib.hid (PaAt.start (HR.out.below hb) (HB.out.trans (hb.mono HB.out.size)) 26); clear hb HB HR HCUT2)
            | (go_at_call 49; (with_reducible refine (HP1.out _ HA.out.bel).mono ?_); rintro e w3 ⟨rfl, hb⟩; have HA3 := Lib.hid (HA.out.below hb); clear hb HP1 HA; obtain ⟨⟨r0, s0, rl⟩, ⟨r1, s1, -⟩, ⟨r2, s2, -⟩, ⟨r3, s3, -⟩, ⟨r4, s4, -⟩, ⟨r5, s5, -⟩, ⟨r6, s6, -⟩⟩ := HA3.out.res; obtain ⟨⟨p0, q0, pl⟩, ⟨p1, q1, -⟩, ⟨p2, q2, -⟩, ⟨p3, q3, -⟩, ⟨p4, q4, -⟩, ⟨p5, q5, -⟩, ⟨p6, q6, -⟩⟩ := HA3.out.p; have HA4 := Lib.hid (HA3.out.put23 (.string B1) (.int .i64 (n1 : Int))); have hrm := HA3.out.rm; have hne : ¬ w2.heap.size = w.heap.size := by omega))
      have S7 := stored7 (m := w.heap.size) (.string ⟨#[]⟩) (.int .i64 0) (.string ⟨#[]⟩) (.int .i64 0) (.bool false) (.bool false) (.slice none 0 0) HA4.out.res
      have HBF := Lib.hid (set7_below (m := w.heap.size) HA4.out.bel (Nat.le_refl _) (.string ⟨#[]⟩) (.int .i64 0) (.string ⟨#[]⟩) (.int .i64 0) (.bool false) (.bool false) (.slice none 0 0))
      exact bodyPost_ret (v := .tuple #[zeroP, .int .i64 12]) (by simp [results, Tryd.results30, go_sem, zeroP, S7.k0.cell, S7.k1.cell, S7.k2.cell, S7.k3.cell, S7.k4.cell, S7.k5.cell, S7.k6.cell]) rfl (by rw [HGV.out]; exact ⟨fun _ => rfl, fun h => absurd h HNZ.out, HBF.out⟩)
    · have HP1 := Lib.hid (show ∀ W, Below w.heap.size w W → Calls Tryd.prog 49 #[.string x] W fun e w' => e = .returned (.tuple #[.agg #[.string B1, .int .i64 (n1 : Int)], .int .i64 0]) ∧ Below W.heap.size W w' from hp1)
      cases o2
      · have HGV := Lib.hid (show G = (12, []) from by rw [hG]; rfl)
        have HP2 := Lib.hid (show ∀ W, Below w.heap.size w W → Calls Tryd.prog 49 #[.string x2] W fun e w' => e = .returned (.tuple #[.agg #[.string B2, .int .i64 (n2 : Int)], .int .i64 12]) ∧ Below W.heap.size W w' from hp2)
        have HNZ := Lib.hid (show ¬ (12, ([] : List Ent)).1 = 0 from by decide)
        clear hp1 hp2 hG
        go_enter Tryd.func30, Tryd.ntmps30
        go_wp2_with (first
          | (go_at_call 48; (with_reducible refine (HCUT.out _ HB0.out).mono ?_); rintro e w1 ⟨rfl, hb⟩; have HB := Lib.hid (HB0.out.trans (hb.mono HB0.out.size)); have HR := Lib.hid (HR0.out.below hb); clear hb HCUT HB0 HR0)
              | (go_at_call 48; (with_reducible refine (HCUT2.out _ HB.out).mono ?_); rintro e w2 ⟨rfl, hb⟩; have HA := Lib.hid (PaAt.start (HR.out.below hb) (HB.out.trans (hb.mono HB.out.size)) 26); clear hb HB HR HCUT2)
              | (go_at_call 49; (with_reducible refine (HP1.out _ HA.out.bel).mono ?_); rintro e w3 ⟨rfl, hb⟩; have HA3 := Lib.hid (HA.out.below hb); clear hb HP1 HA; obtain ⟨⟨r0, s0, rl⟩, ⟨r1, s1, -⟩, ⟨r2, s2, -⟩, ⟨r3, s3, -⟩, ⟨r4, s4, -⟩, ⟨r5, s5, -⟩, ⟨r6, s6, -⟩⟩ := HA3.out.res; obtain ⟨⟨p0, q0, pl⟩, ⟨p1, q1, -⟩, ⟨p2, q2, -⟩, ⟨p3, q3, -⟩, ⟨p4, q4, -⟩, ⟨p5, q5, -⟩, ⟨p6, q6, -⟩⟩ := HA3.out.p; have HA4 := Lib.hid (HA3.out.put23 (.string B1) (.int .i64 (n1 : Int))); have hrm := HA3.out.rm; have hne : ¬ w2.heap.size = w.heap.size := by omega)
          | (go_at_call 49; (with_reducible refine (HP2.out _ HA4.out.bel).mono ?_); rintro e w4 ⟨rfl, hb⟩; have HA5 := Lib.hid (HA4.out.below hb); clear hb HP2 HA4 HA3; clear r0 s0 rl r1 s1 r2 s2 r3 s3 r4 s4 r5 s5 r6 s6 p0 q0 pl p1 q1 p2 q2 p3 q3 p4 q4 p5 q5 p6 q6; obtain ⟨⟨r0, s0, rl⟩, ⟨r1, s1, -⟩, ⟨r2, s2, -⟩, ⟨r3, s3, -⟩, ⟨r4, s4, -⟩, ⟨r5, s5, -⟩, ⟨r6, s6, -⟩⟩ := HA5.out.res; obtain ⟨⟨p0, q0, pl⟩, ⟨p1, q1, -⟩, ⟨p2, q2, -⟩, ⟨p3, q3, -⟩, ⟨p4, q4, -⟩, ⟨p5, q5, -⟩, ⟨p6, q6, -⟩⟩ := HA5.out.p; have HA6 := Lib.hid (HA5.out.put01 (.string B2) (.int .i64 (n2 : Int)))))
        have S7 := stored7 (m := w.heap.size) (.string ⟨#[]⟩) (.int .i64 0) (.string ⟨#[]⟩) (.int .i64 0) (.bool false) (.bool false) (.slice none 0 0) HA6.out.res
        have HBF := Lib.hid (set7_below (m := w.heap.size) HA6.out.bel (Nat.le_refl _) (.string ⟨#[]⟩) (.int .i64 0) (.string ⟨#[]⟩) (.int .i64 0) (.bool false) (.bool false) (.slice none 0 0))
        exact bodyPost_ret (v := .tuple #[zeroP, .int .i64 12]) (by simp [results, Tryd.results30, go_sem, zeroP, S7.k0.cell, S7.k1.cell, S7.k2.cell, S7.k3.cell, S7.k4.cell, S7.k5.cell, S7.k6.cell]) rfl (by rw [HGV.out]; exact ⟨fun _ => rfl, fun h => absurd h HNZ.out, HBF.out⟩)
      · have HP2 := Lib.hid (show ∀ W, Below w.heap.size w W → Calls Tryd.prog 49 #[.string x2] W fun e w' => e = .returned (.tuple #[.agg #[.string B2, .int .i64 (n2 : Int)], .int .i64 0]) ∧ Below W.heap.size W w' from hp2)
        clear hp1 hp2
        cases f2
        · have HGV := Lib.hid (show G = (0, (B2, (n2 : Int), true) :: (B1, (n1 : Int), false) :: []) from by rw [hG]; rfl)
          clear hG
          go_enter Tryd.func30, Tryd.ntmps30
          go_wp2_with (first
            | (go_at_call 48; (with_reducible refine (HCUT.out _ HB0.out).mono ?_); rintro e w1 ⟨rfl, hb⟩; have HB := Lib.hid (HB0.out.trans (hb.mono HB0.out.size)); have HR := Lib.hid (HR0.out.below hb); clear hb HCUT HB0 HR0)
                | (go_at_call 48; (with_reducible refine (HCUT2.out _ HB.out).mono ?_); rintro e w2 ⟨rfl, hb⟩; have HA := Lib.hid (PaAt.start (HR.out.below hb) (HB.out.trans (hb.mono HB.out.size)) 26); clear hb HB HR HCUT2)
                | (go_at_call 49; (with_reducible refine (HP1.out _ HA.out.bel).mono ?_); rintro e w3 ⟨rfl, hb⟩; have HA3 := Lib.hid (HA.out.below hb); clear hb HP1 HA; obtain ⟨⟨r0, s0, rl⟩, ⟨r1, s1, -⟩, ⟨r2, s2, -⟩, ⟨r3, s3, -⟩, ⟨r4, s4, -⟩, ⟨r5, s5, -⟩, ⟨r6, s6, -⟩⟩ := HA3.out.res; obtain ⟨⟨p0, q0, pl⟩, ⟨p1, q1, -⟩, ⟨p2, q2, -⟩, ⟨p3, q3, -⟩, ⟨p4, q4, -⟩, ⟨p5, q5, -⟩, ⟨p6, q6, -⟩⟩ := HA3.out.p; have HA4 := Lib.hid (HA3.out.put23 (.string B1) (.int .i64 (n1 : Int))); have hrm := HA3.out.rm; have hne : ¬ w2.heap.size = w.heap.size := by omega)
            | (go_at_call 49; (with_reducible refine (HP2.out _ HA4.out.bel).mono ?_); rintro e w4 ⟨rfl, hb⟩; have HA5 := Lib.hid (HA4.out.below hb); clear hb HP2 HA4 HA3; clear r0 s0 rl r1 s1 r2 s2 r3 s3 r4 s4 r5 s5 r6 s6 p0 q0 pl p1 q1 p2 q2 p3 q3 p4 q4 p5 q5 p6 q6; obtain ⟨⟨r0, s0, rl⟩, ⟨r1, s1, -⟩, ⟨r2, s2, -⟩, ⟨r3, s3, -⟩, ⟨r4, s4, -⟩, ⟨r5, s5, -⟩, ⟨r6, s6, -⟩⟩ := HA5.out.res; obtain ⟨⟨p0, q0, pl⟩, ⟨p1, q1, -⟩, ⟨p2, q2, -⟩, ⟨p3, q3, -⟩, ⟨p4, q4, -⟩, ⟨p5, q5, -⟩, ⟨p6, q6, -⟩⟩ := HA5.out.p; have HA6 := Lib.hid (HA5.out.put01 (.string B2) (.int .i64 (n2 : Int)))))
          have S7 := stored7 (m := w.heap.size) (.string B2) (.int .i64 (n2 : Int)) (.string B1) (.int .i64 (n1 : Int)) (.bool true) (.bool false) (.slice none 0 0) HA6.out.res
          have HBF := Lib.hid (set7_below (m := w.heap.size) HA6.out.bel (Nat.le_refl _) (.string B2) (.int .i64 (n2 : Int)) (.string B1) (.int .i64 (n1 : Int)) (.bool true) (.bool false) (.slice none 0 0))
          exact bodyPost_ret (v := .tuple #[.agg #[.string B2, .int .i64 (n2 : Int), .string B1, .int .i64 (n1 : Int), .bool true, .bool false, .slice none 0 0], .int .i64 0]) (by simp [results, Tryd.results30, go_sem, S7.k0.cell, S7.k1.cell, S7.k2.cell, S7.k3.cell, S7.k4.cell, S7.k5.cell, S7.k6.cell]) rfl (by
            rw [HGV.out]
            exact ⟨fun h => absurd rfl h, fun _ => ⟨(B2, (n2 : Int), true), (B1, (n1 : Int), false), [], none, 0, rfl, rfl, OwnE.nil _ _ _⟩, HBF.out⟩)
        · rw [if_pos rfl] at hG
          generalize stepsP 8 [] 0 (wordsD y2.data.toList) = R at *
          obtain ⟨rc, RD⟩ := R
          unfold DigTo at HDG
          dsimp only at hG HDG
          by_cases h0 : rc = 0
          · subst h0
            have HGV := Lib.hid (show G = (0, (B2, (n2 : Int), true) :: (B1, (n1 : Int), false) :: RD) from by rw [hG]; rfl)
            have HDD := Lib.hid (show ∀ W, Below w.heap.size w W → Calls Tryd.prog 50 #[.string y2] W fun e w' => ∃ da dc, e = .returned (.tuple #[.slice da RD.length dc, .int .i64 0]) ∧ OwnE 65 w' W.heap.size (.slice da RD.length dc) RD ∧ Below W.heap.size W w' from fun W hb => (HDG.out W hb).mono fun e w' hq => by
              obtain ⟨da, dc, h1, h2⟩ := hq.2.1 rfl
              exact ⟨da, dc, h1, h2, hq.2.2⟩)
            clear hG HDG
            go_enter Tryd.func30, Tryd.ntmps30
            go_wp2_with (first
              | (go_at_call 48; (with_reducible refine (HCUT.out _ HB0.out).mono ?_); rintro e w1 ⟨rfl, hb⟩; have HB := Lib.hid (HB0.out.trans (hb.mono HB0.out.size)); have HR := Lib.hid (HR0.out.below hb); clear hb HCUT HB0 HR0)
                  | (go_at_call 48; (with_reducible refine (HCUT2.out _ HB.out).mono ?_); rintro e w2 ⟨rfl, hb⟩; have HA := Lib.hid (PaAt.start (HR.out.below hb) (HB.out.trans (hb.mono HB.out.size)) 26); clear hb HB HR HCUT2)
                  | (go_at_call 49; (with_reducible refine (HP1.out _ HA.out.bel).mono ?_); rintro e w3 ⟨rfl, hb⟩; have HA3 := Lib.hid (HA.out.below hb); clear hb HP1 HA; obtain ⟨⟨r0, s0, rl⟩, ⟨r1, s1, -⟩, ⟨r2, s2, -⟩, ⟨r3, s3, -⟩, ⟨r4, s4, -⟩, ⟨r5, s5, -⟩, ⟨r6, s6, -⟩⟩ := HA3.out.res; obtain ⟨⟨p0, q0, pl⟩, ⟨p1, q1, -⟩, ⟨p2, q2, -⟩, ⟨p3, q3, -⟩, ⟨p4, q4, -⟩, ⟨p5, q5, -⟩, ⟨p6, q6, -⟩⟩ := HA3.out.p; have HA4 := Lib.hid (HA3.out.put23 (.string B1) (.int .i64 (n1 : Int))); have hrm := HA3.out.rm; have hne : ¬ w2.heap.size = w.heap.size := by omega)
              | (go_at_call 49; (with_reducible refine (HP2.out _ HA4.out.bel).mono ?_); rintro e w4 ⟨rfl, hb⟩; have HA5 := Lib.hid (HA4.out.below hb); clear hb HP2 HA4 HA3; clear r0 s0 rl r1 s1 r2 s2 r3 s3 r4 s4 r5 s5 r6 s6 p0 q0 pl p1 q1 p2 q2 p3 q3 p4 q4 p5 q5 p6 q6; obtain ⟨⟨r0, s0, rl⟩, ⟨r1, s1, -⟩, ⟨r2, s2, -⟩, ⟨r3, s3, -⟩, ⟨r4, s4, -⟩, ⟨r5, s5, -⟩, ⟨r6, s6, -⟩⟩ := HA5.out.res; obtain ⟨⟨p0, q0, pl⟩, ⟨p1, q1, -⟩, ⟨p2, q2, -⟩, ⟨p3, q3, -⟩, ⟨p4, q4, -⟩, ⟨p5, q5, -⟩, ⟨p6, q6, -⟩⟩ := HA5.out.p; have HA6 := Lib.hid (HA5.out.put01 (.string B2) (.int .i64 (n2 : Int))))
              | (go_at_call 50; (with_reducible refine (HDD.out _ HA6.out.bel).mono ?_); rintro e w5 ⟨da, dc, rfl, hE, hb⟩; have HML := Lib.hid (And.intro HA6.out.p.k0.lt HA6.out.res.k0.lt); have HA7 := Lib.hid (HA6.out.below hb); clear HDD HA6 HA5; clear r0 s0 rl r1 s1 r2 s2 r3 s3 r4 s4 r5 s5 r6 s6 p0 q0 pl p1 q1 p2 q2 p3 q3 p4 q4 p5 q5 p6 q6; obtain ⟨⟨r0, s0, rl⟩, ⟨r1, s1, -⟩, ⟨r2, s2, -⟩, ⟨r3, s3, -⟩, ⟨r4, s4, -⟩, ⟨r5, s5, -⟩, ⟨r6, s6, -⟩⟩ := HA7.out.res; obtain ⟨⟨p0, q0, pl⟩, ⟨p1, q1, -⟩, ⟨p2, q2, -⟩, ⟨p3, q3, -⟩, ⟨p4, q4, -⟩, ⟨p5, q5, -⟩, ⟨p6, q6, -⟩⟩ := HA7.out.p; have HA8 := Lib.hid (HA7.out.put6 (.slice da RD.length dc)); have HE8 := Lib.hid (hE.grown (grown_set (grown_refl w5 (some w2.heap.size)) (o := 6) (.slice da RD.length dc)) (fun g hv e => by have h9 := (hE.ge hv).1; have e' : w2.heap.size = g := Option.some.inj e; have := HML.out.1; omega)); clear hb hE))
            have S7 := stored7 (m := w.heap.size) (.string B2) (.int .i64 (n2 : Int)) (.string B1) (.int .i64 (n1 : Int)) (.bool true) (.bool false) (.slice da RD.length dc) HA8.out.res
            have HBF := Lib.hid (set7_below (m := w.heap.size) HA8.out.bel (Nat.le_refl _) (.string B2) (.int .i64 (n2 : Int)) (.string B1) (.int .i64 (n1 : Int)) (.bool true) (.bool false) (.slice da RD.length dc))
            have HOW := Lib.hid (own7 (m := w.heap.size) HE8.out HML.out.2 (.string B2) (.int .i64 (n2 : Int)) (.string B1) (.int .i64 (n1 : Int)) (.bool true) (.bool false) (.slice da RD.length dc))
            exact bodyPost_ret (v := .tuple #[.agg #[.string B2, .int .i64 (n2 : Int), .string B1, .int .i64 (n1 : Int), .bool true, .bool false, .slice da RD.length dc], .int .i64 0]) (by simp [results, Tryd.results30, go_sem, S7.k0.cell, S7.k1.cell, S7.k2.cell, S7.k3.cell, S7.k4.cell, S7.k5.cell, S7.k6.cell]) rfl (by
              rw [HGV.out]
              exact ⟨fun h => absurd rfl h, fun _ => ⟨(B2, (n2 : Int), true), (B1, (n1 : Int), false), RD, da, dc, rfl, rfl, HOW.out.base (Nat.le_of_lt HML.out.2)⟩, HBF.out⟩)
          · have HNZ := Lib.hid (show ¬ (rc, ([] : List Ent)).1 = 0 from h0)
            have HGV := Lib.hid (show G = (rc, []) from by rw [hG]; simp [h0])
            have ez : ((rc : Int) != 0) = true := by rw [bne_iff_ne]; omega
            have HDD := Lib.hid (show ∀ W, Below w.heap.size w W → Calls Tryd.prog 50 #[.string y2] W fun e w' => e = .returned (.tuple #[.slice none 0 0, .int .i64 (rc : Int)]) ∧ Below W.heap.size W w' from fun W hb => (HDG.out W hb).mono fun e w' hq => ⟨hq.1 h0, hq.2.2⟩)
            clear hG HDG h0
            go_enter Tryd.func30, Tryd.ntmps30
            go_wp2_with (first
              | (go_at_call 48; (with_reducible refine (HCUT.out _ HB0.out).mono ?_); rintro e w1 ⟨rfl, hb⟩; have HB := Lib.hid (HB0.out.trans (hb.mono HB0.out.size)); have HR := Lib.hid (HR0.out.below hb); clear hb HCUT HB0 HR0)
                  | (go_at_call 48; (with_reducible refine (HCUT2.out _ HB.out).mono ?_); rintro e w2 ⟨rfl, hb⟩; have HA := Lib.hid (PaAt.start (HR.out.below hb) (HB.out.trans (hb.mono HB.out.size)) 26); clear hb HB HR HCUT2)
                  | (go_at_call 49; (with_reducible refine (HP1.out _ HA.out.bel).mono ?_); rintro e w3 ⟨rfl, hb⟩; have HA3 := Lib.hid (HA.out.below hb); clear hb HP1 HA; obtain ⟨⟨r0, s0, rl⟩, ⟨r1, s1, -⟩, ⟨r2, s2, -⟩, ⟨r3, s3, -⟩, ⟨r4, s4, -⟩, ⟨r5, s5, -⟩, ⟨r6, s6, -⟩⟩ := HA3.out.res; obtain ⟨⟨p0, q0, pl⟩, ⟨p1, q1, -⟩, ⟨p2, q2, -⟩, ⟨p3, q3, -⟩, ⟨p4, q4, -⟩, ⟨p5, q5, -⟩, ⟨p6, q6, -⟩⟩ := HA3.out.p; have HA4 := Lib.hid (HA3.out.put23 (.string B1) (.int .i64 (n1 : Int))); have hrm := HA3.out.rm; have hne : ¬ w2.heap.size = w.heap.size := by omega)
              | (go_at_call 49; (with_reducible refine (HP2.out _ HA4.out.bel).mono ?_); rintro e w4 ⟨rfl, hb⟩; have HA5 := Lib.hid (HA4.out.below hb); clear hb HP2 HA4 HA3; clear r0 s0 rl r1 s1 r2 s2 r3 s3 r4 s4 r5 s5 r6 s6 p0 q0 pl p1 q1 p2 q2 p3 q3 p4 q4 p5 q5 p6 q6; obtain ⟨⟨r0, s0, rl⟩, ⟨r1, s1, -⟩, ⟨r2, s2, -⟩, ⟨r3, s3, -⟩, ⟨r4, s4, -⟩, ⟨r5, s5, -⟩, ⟨r6, s6, -⟩⟩ := HA5.out.res; obtain ⟨⟨p0, q0, pl⟩, ⟨p1, q1, -⟩, ⟨p2, q2, -⟩, ⟨p3, q3, -⟩, ⟨p4, q4, -⟩, ⟨p5, q5, -⟩, ⟨p6, q6, -⟩⟩ := HA5.out.p; have HA6 := Lib.hid (HA5.out.put01 (.string B2) (.int .i64 (n2 : Int))))
              | (go_at_call 50; (with_reducible refine (HDD.out _ HA6.out.bel).mono ?_); rintro e w5 ⟨rfl, hb⟩; have HA7 := Lib.hid (HA6.out.below hb); clear HDD HA6 HA5; clear r0 s0 rl r1 s1 r2 s2 r3 s3 r4 s4 r5 s5 r6 s6 p0 q0 pl p1 q1 p2 q2 p3 q3 p4 q4 p5 q5 p6 q6; obtain ⟨⟨r0, s0, rl⟩, ⟨r1, s1, -⟩, ⟨r2, s2, -⟩, ⟨r3, s3, -⟩, ⟨r4, s4, -⟩, ⟨r5, s5, -⟩, ⟨r6, s6, -⟩⟩ := HA7.out.res; obtain ⟨⟨p0, q0, pl⟩, ⟨p1, q1, -⟩, ⟨p2, q2, -⟩, ⟨p3, q3, -⟩, ⟨p4, q4, -⟩, ⟨p5, q5, -⟩, ⟨p6, q6, -⟩⟩ := HA7.out.p; have HA8 := Lib.hid (HA7.out.put6 (.slice none 0 0)); clear hb))
            have S7 := stored7 (m := w.heap.size) (.string ⟨#[]⟩) (.int .i64 0) (.string ⟨#[]⟩) (.int .i64 0) (.bool false) (.bool false) (.slice none 0 0) HA8.out.res
            have HBF := Lib.hid (set7_below (m := w.heap.size) HA8.out.bel (Nat.le_refl _) (.string ⟨#[]⟩) (.int .i64 0) (.string ⟨#[]⟩) (.int .i64 0) (.bool false) (.bool false) (.slice none 0 0))
            exact bodyPost_ret (v := .tuple #[zeroP, .int .i64 (rc : Int)]) (by simp [results, Tryd.results30, go_sem, zeroP, S7.k0.cell, S7.k1.cell, S7.k2.cell, S7.k3.cell, S7.k4.cell, S7.k5.cell, S7.k6.cell]) rfl (by rw [HGV.out]; exact ⟨fun _ => rfl, fun h => absurd h HNZ.out, HBF.out⟩)
end Go.Proofs.YteiappicdnekoaaDoor
