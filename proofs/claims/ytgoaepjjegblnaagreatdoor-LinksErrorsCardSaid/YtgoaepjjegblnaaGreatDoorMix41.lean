/-
The landed digipeater's For; what Get answers of what can be decoded.
-/
import Derived.Test.YtgoaepjjegblnaaGreatDoorMix37
import Derived.Test.YtgoaepjjegblnaaGreatDoorMix40
namespace Go.Proofs.YtgoaepjjegblnaaGreatDoor
open Go.RowKit Go.Sort
set_option maxRecDepth 20000
theorem next18 (x y : Ent) (D : List Ent) : (x :: y :: D)[2 + fstD ((x :: y :: D).drop 2)]? = D[fstD D]? := by
  rw [Nat.add_comm]
  rfl
/-- what the landed Get answers of what can be decoded -/
theorem cget18 (s : ByteArray) (hs : s.size ≤ 100000) (x y : Ent) (D : List Ent) (hd : decB s.data.toList = true) (hL : pathL s.data.toList = x :: y :: D) (W : World) : Calls Tryz.prog 144 #[.string s] W fun e w' => (∃ da dc, e = .returned (.tuple #[.agg #[.string x.1, .int .i64 x.2.1, .string y.1, .int .i64 y.2.1, .bool x.2.2, .bool y.2.2, .slice da D.length dc], .int .i64 ((7 * (x :: y :: D).length : Nat) : Int), .int .i64 0]) ∧ EntsAt w' da dc D) ∧ Below W.heap.size W w' := by
  refine (pget_any s W hs).mono ?_
  rintro e w' ⟨-, h2, h3⟩
  obtain ⟨x', y', D', da, dc, e1, e2, e3⟩ := h2 (decB_get hd)
  have e1' : pathL s.data.toList = x' :: y' :: D' := e1
  rw [hL] at e1'
  simp only [List.cons.injEq] at e1'
  obtain ⟨rfl, rfl, rfl⟩ := e1'
  have e4 : (getP 10 [] s.data.toList).2 = x :: y :: D := hL
  refine ⟨⟨da, dc, ?_, e3⟩, h3⟩
  rw [e2]
  try rw [e4]
set_option maxHeartbeats 2000000 in
theorem cfor18 (b : ByteArray) (n : Int) (s : ByteArray) (w : World) (hs : s.size ≤ 1000) (hC : CodesOk w) : Calls Tryz.prog 143 #[.agg #[.string b, .int .i64 n], .string s] w fun e w' => e = .returned (.bool (forD (b, n) s.data.toList)) ∧ Below w.heap.size w w' := by
  have HB0 := Lib.hid ((Below.refl w.heap.size w).alloc (Nat.le_refl _) (.cells #[.string b, .int .i64 n] 54))
  have HR0 := Lib.hid (RowAt.new w w.heap.size rfl [.string b, .int .i64 n] 54)
  have hde := fun W hb => cdecode18 s W (by omega) (hC.below hb)
  unfold DecTo at hde
  cases hd : decB s.data.toList with
  | false =>
    have e : forD (b, n) s.data.toList = false := by unfold forD; rw [hd]; rfl
    rw [e]
    have HDE := Lib.hid (fun W hb => (hde W hb).mono fun e w' hq => And.intro (hq.1 hd) hq.2.2)
    clear hd e hC hde
    go_enter Tryz.func143, Tryz.ntmps143
    go_wp2_with (go_at_call 189; (with_reducible refine (HDE.out _ HB0.out).mono ?_); rintro e w1 ⟨rfl, hb⟩; have hb1 := HB0.out.trans (hb.mono HB0.out.size); have HB1 := Lib.hid (hb1.alloc hb1.size (.cells #[.string ⟨#[]⟩, .int .i64 0, .string ⟨#[]⟩, .int .i64 0, .bool false, .bool false, .slice none 0 0, .int .i64 0, .int .i64 0, .int .i64 0, .bool false, .int .i64 0, .string ⟨#[]⟩] 74)); clear hb hb1)
    exact bodyPost_ret (v := .bool false) (by simp [results, Tryz.results143, go_sem]) rfl ⟨rfl, HB1.out⟩
  | true =>
    have hr := path_right18 hd
    obtain ⟨hrr, hl2, hl10, -⟩ := right_path _ hr
    have HDE := Lib.hid (fun W hb => (hde W hb).mono fun e w' hq => And.intro (hq.2.1 hd) hq.2.2)
    obtain ⟨x, y, D, hL⟩ : ∃ x y D, pathL s.data.toList = x :: y :: D := by
      match hq : pathL s.data.toList, hl2 with
      | x :: y :: D, _ => exact ⟨x, y, D, rfl⟩
    have hfo : forD (b, n) s.data.toList = (decide ((b, n) = (x.1, x.2.1)) && decide (¬ fstD D < D.length)) := by
      unfold forD
      rw [hd, hL, next18]
      simp only [Bool.true_and, List.getElem?_cons_zero]
      congr 1
      · rw [Bool.eq_iff_iff, decide_eq_true_eq, decide_eq_true_eq]
        exact ⟨fun h => h.symm, fun h => h.symm⟩
      · rw [Bool.eq_iff_iff, decide_eq_true_eq, decide_eq_true_eq, List.getElem?_eq_none_iff]
        omega
    rw [hL] at hrr hl10 HDE
    rw [hfo]
    have HDN := Lib.hid (fun da dc k nr ns pf pid info W (h : EntsAt W da dc D) => done_any x.1 y.1 x.2.1 y.2.1 x.2.2 y.2.2 da dc D k nr ns pf pid info W (by simp at hl10; omega) h (fun e he => by
      have := (right_facts _ _ (hrr e (List.mem_cons_of_mem _ (List.mem_cons_of_mem _ he)))).2.1
      omega))
    obtain ⟨xb, xn, xm⟩ := x
    obtain ⟨yb, yn, ym⟩ := y
    simp only at HDE HDN ⊢
    clear hd hr hrr hl2 hl10 hL hfo hC hde
    have heq := fun W => run_eq_call18 xb b xn n W _ rfl
    obtain ⟨q, hq⟩ : ∃ q, q = decide ((b, n) = (xb, xn)) := ⟨_, rfl⟩
    have hq2 : decide ((xb, xn) = (b, n)) = q := by
      rw [hq, Bool.eq_iff_iff, decide_eq_true_eq, decide_eq_true_eq]
      exact ⟨fun h => h.symm, fun h => h.symm⟩
    rw [hq2] at heq
    rw [← hq]
    clear hq hq2
    generalize decide (¬ fstD D < D.length) = don at *
    cases don with
    | false =>
      rw [Bool.and_false]
      go_enter Tryz.func143, Tryz.ntmps143
      go_wp2_with (first
        | (go_at_call 189; (with_reducible refine (HDE.out _ HB0.out).mono ?_); rintro e w1 ⟨⟨xb1, xn1, xm1, yb1, yn1, ym1, D1, da, dc, k, nr, ns, pf, pid, info, hx, rfl, hE⟩, hb⟩; simp only [List.cons.injEq, Prod.mk.injEq] at hx; obtain ⟨⟨rfl, rfl, rfl⟩, ⟨rfl, rfl, rfl⟩, rfl⟩ := hx; have hb1 := HB0.out.trans (hb.mono HB0.out.size); have HB1 := Lib.hid (hb1.alloc hb1.size (.cells #[.string xb, .int .i64 xn, .string yb, .int .i64 yn, .bool xm, .bool ym, .slice da D.length dc, .int .i64 k, .int .i64 nr, .int .i64 ns, .bool pf, .int .i64 pid, .string info] 74)); have HE := Lib.hid (hE.alloc (.cells #[.string xb, .int .i64 xn, .string yb, .int .i64 yn, .bool xm, .bool ym, .slice da D.length dc, .int .i64 k, .int .i64 nr, .int .i64 ns, .bool pf, .int .i64 pid, .string info] 74)); have HO := Lib.hid (F13.new w1 w1.heap.size rfl (.string xb) (.int .i64 xn) (.string yb) (.int .i64 yn) (.bool xm) (.bool ym) (.slice da D.length dc) (.int .i64 k) (.int .i64 nr) (.int .i64 ns) (.bool pf) (.int .i64 pid) (.string info) 74); have HR1 := Lib.hid ((HR0.out.below hb).alloc (.cells #[.string xb, .int .i64 xn, .string yb, .int .i64 yn, .bool xm, .bool ym, .slice da D.length dc, .int .i64 k, .int .i64 nr, .int .i64 ns, .bool pf, .int .i64 pid, .string info] 74)); clear hb hb1 hE; obtain ⟨⟨b0, z0, bl⟩, ⟨b1, z1, -⟩, ⟨b2, z2, -⟩, ⟨b3, z3, -⟩, ⟨b4, z4, -⟩, ⟨b5, z5, -⟩, ⟨b6, z6, -⟩, ⟨b7, z7, -⟩, ⟨b8, z8, -⟩, ⟨b9, z9, -⟩, ⟨b10, z10, -⟩, ⟨b11, z11, -⟩, ⟨b12, z12, -⟩⟩ := HO.out)
        | (go_at_call 190; (with_reducible refine (HDN.out da dc k nr ns pf pid info _ HE.out).mono ?_); rintro e w2 ⟨rfl, hb⟩; have HB2 := Lib.hid (HB1.out.trans (hb.mono HB1.out.size)); have HO2 := Lib.hid (HO.out.below hb); have HR2 := Lib.hid (HR1.out.below hb); clear hb; clear b0 z0 bl b1 z1 b2 z2 b3 z3 b4 z4 b5 z5 b6 z6 b7 z7 b8 z8 b9 z9 b10 z10 b11 z11 b12 z12; obtain ⟨⟨b0, z0, bl⟩, ⟨b1, z1, -⟩, ⟨b2, z2, -⟩, ⟨b3, z3, -⟩, ⟨b4, z4, -⟩, ⟨b5, z5, -⟩, ⟨b6, z6, -⟩, ⟨b7, z7, -⟩, ⟨b8, z8, -⟩, ⟨b9, z9, -⟩, ⟨b10, z10, -⟩, ⟨b11, z11, -⟩, ⟨b12, z12, -⟩⟩ := HO2.out; have x0 := HR2.out.cell 0 rfl; have x1 := HR2.out.cell 1 rfl))
      exact bodyPost_ret (v := .bool false) (by simp [results, Tryz.results143, go_sem]) rfl ⟨rfl, HB2.out⟩
    | true =>
      rw [Bool.and_true]
      cases q with
      | true =>
        go_enter Tryz.func143, Tryz.ntmps143
        go_wp2_with (first
          | (go_at_call 189; (with_reducible refine (HDE.out _ HB0.out).mono ?_); rintro e w1 ⟨⟨xb1, xn1, xm1, yb1, yn1, ym1, D1, da, dc, k, nr, ns, pf, pid, info, hx, rfl, hE⟩, hb⟩; simp only [List.cons.injEq, Prod.mk.injEq] at hx; obtain ⟨⟨rfl, rfl, rfl⟩, ⟨rfl, rfl, rfl⟩, rfl⟩ := hx; have hb1 := HB0.out.trans (hb.mono HB0.out.size); have HB1 := Lib.hid (hb1.alloc hb1.size (.cells #[.string xb, .int .i64 xn, .string yb, .int .i64 yn, .bool xm, .bool ym, .slice da D.length dc, .int .i64 k, .int .i64 nr, .int .i64 ns, .bool pf, .int .i64 pid, .string info] 74)); have HE := Lib.hid (hE.alloc (.cells #[.string xb, .int .i64 xn, .string yb, .int .i64 yn, .bool xm, .bool ym, .slice da D.length dc, .int .i64 k, .int .i64 nr, .int .i64 ns, .bool pf, .int .i64 pid, .string info] 74)); have HO := Lib.hid (F13.new w1 w1.heap.size rfl (.string xb) (.int .i64 xn) (.string yb) (.int .i64 yn) (.bool xm) (.bool ym) (.slice da D.length dc) (.int .i64 k) (.int .i64 nr) (.int .i64 ns) (.bool pf) (.int .i64 pid) (.string info) 74); have HR1 := Lib.hid ((HR0.out.below hb).alloc (.cells #[.string xb, .int .i64 xn, .string yb, .int .i64 yn, .bool xm, .bool ym, .slice da D.length dc, .int .i64 k, .int .i64 nr, .int .i64 ns, .bool pf, .int .i64 pid, .string info] 74)); clear hb hb1 hE; obtain ⟨⟨b0, z0, bl⟩, ⟨b1, z1, -⟩, ⟨b2, z2, -⟩, ⟨b3, z3, -⟩, ⟨b4, z4, -⟩, ⟨b5, z5, -⟩, ⟨b6, z6, -⟩, ⟨b7, z7, -⟩, ⟨b8, z8, -⟩, ⟨b9, z9, -⟩, ⟨b10, z10, -⟩, ⟨b11, z11, -⟩, ⟨b12, z12, -⟩⟩ := HO.out)
          | (go_at_call 190; (with_reducible refine (HDN.out da dc k nr ns pf pid info _ HE.out).mono ?_); rintro e w2 ⟨rfl, hb⟩; have HB2 := Lib.hid (HB1.out.trans (hb.mono HB1.out.size)); have HO2 := Lib.hid (HO.out.below hb); have HR2 := Lib.hid (HR1.out.below hb); clear hb; clear b0 z0 bl b1 z1 b2 z2 b3 z3 b4 z4 b5 z5 b6 z6 b7 z7 b8 z8 b9 z9 b10 z10 b11 z11 b12 z12; obtain ⟨⟨b0, z0, bl⟩, ⟨b1, z1, -⟩, ⟨b2, z2, -⟩, ⟨b3, z3, -⟩, ⟨b4, z4, -⟩, ⟨b5, z5, -⟩, ⟨b6, z6, -⟩, ⟨b7, z7, -⟩, ⟨b8, z8, -⟩, ⟨b9, z9, -⟩, ⟨b10, z10, -⟩, ⟨b11, z11, -⟩, ⟨b12, z12, -⟩⟩ := HO2.out; have x0 := HR2.out.cell 0 rfl; have x1 := HR2.out.cell 1 rfl))
        exact bodyPost_ret (v := .bool true) (by simp [results, Tryz.results143, go_sem]) rfl ⟨rfl, HB2.out⟩
      | false =>
        go_enter Tryz.func143, Tryz.ntmps143
        go_wp2_with (first
          | (go_at_call 189; (with_reducible refine (HDE.out _ HB0.out).mono ?_); rintro e w1 ⟨⟨xb1, xn1, xm1, yb1, yn1, ym1, D1, da, dc, k, nr, ns, pf, pid, info, hx, rfl, hE⟩, hb⟩; simp only [List.cons.injEq, Prod.mk.injEq] at hx; obtain ⟨⟨rfl, rfl, rfl⟩, ⟨rfl, rfl, rfl⟩, rfl⟩ := hx; have hb1 := HB0.out.trans (hb.mono HB0.out.size); have HB1 := Lib.hid (hb1.alloc hb1.size (.cells #[.string xb, .int .i64 xn, .string yb, .int .i64 yn, .bool xm, .bool ym, .slice da D.length dc, .int .i64 k, .int .i64 nr, .int .i64 ns, .bool pf, .int .i64 pid, .string info] 74)); have HE := Lib.hid (hE.alloc (.cells #[.string xb, .int .i64 xn, .string yb, .int .i64 yn, .bool xm, .bool ym, .slice da D.length dc, .int .i64 k, .int .i64 nr, .int .i64 ns, .bool pf, .int .i64 pid, .string info] 74)); have HO := Lib.hid (F13.new w1 w1.heap.size rfl (.string xb) (.int .i64 xn) (.string yb) (.int .i64 yn) (.bool xm) (.bool ym) (.slice da D.length dc) (.int .i64 k) (.int .i64 nr) (.int .i64 ns) (.bool pf) (.int .i64 pid) (.string info) 74); have HR1 := Lib.hid ((HR0.out.below hb).alloc (.cells #[.string xb, .int .i64 xn, .string yb, .int .i64 yn, .bool xm, .bool ym, .slice da D.length dc, .int .i64 k, .int .i64 nr, .int .i64 ns, .bool pf, .int .i64 pid, .string info] 74)); clear hb hb1 hE; obtain ⟨⟨b0, z0, bl⟩, ⟨b1, z1, -⟩, ⟨b2, z2, -⟩, ⟨b3, z3, -⟩, ⟨b4, z4, -⟩, ⟨b5, z5, -⟩, ⟨b6, z6, -⟩, ⟨b7, z7, -⟩, ⟨b8, z8, -⟩, ⟨b9, z9, -⟩, ⟨b10, z10, -⟩, ⟨b11, z11, -⟩, ⟨b12, z12, -⟩⟩ := HO.out)
          | (go_at_call 190; (with_reducible refine (HDN.out da dc k nr ns pf pid info _ HE.out).mono ?_); rintro e w2 ⟨rfl, hb⟩; have HB2 := Lib.hid (HB1.out.trans (hb.mono HB1.out.size)); have HO2 := Lib.hid (HO.out.below hb); have HR2 := Lib.hid (HR1.out.below hb); clear hb; clear b0 z0 bl b1 z1 b2 z2 b3 z3 b4 z4 b5 z5 b6 z6 b7 z7 b8 z8 b9 z9 b10 z10 b11 z11 b12 z12; obtain ⟨⟨b0, z0, bl⟩, ⟨b1, z1, -⟩, ⟨b2, z2, -⟩, ⟨b3, z3, -⟩, ⟨b4, z4, -⟩, ⟨b5, z5, -⟩, ⟨b6, z6, -⟩, ⟨b7, z7, -⟩, ⟨b8, z8, -⟩, ⟨b9, z9, -⟩, ⟨b10, z10, -⟩, ⟨b11, z11, -⟩, ⟨b12, z12, -⟩⟩ := HO2.out; have x0 := HR2.out.cell 0 rfl; have x1 := HR2.out.cell 1 rfl))
        exact bodyPost_ret (v := .bool false) (by simp [results, Tryz.results143, go_sem]) rfl ⟨rfl, HB2.out⟩
where
  path_right18 {s : List UInt8} (h : decB s = true) : rightP (pathL s) = true := (read_path s (decB_get h)).1
end Go.Proofs.YtgoaepjjegblnaaGreatDoor
