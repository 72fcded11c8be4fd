/-
The document's own Put and Text of paths, of right calls.
-/
import Derived.Test.YteiappicdnekoaaDoorPathCPut
import Derived.Test.YteiappicdnekoaaDoorPathCText
import Derived.Test.YteiappicdnekoaaDoorPathRNext
import Derived.Test.YteiappicdnekoaaDoorCallGet
import Derived.Lib.QuietBelow
import Derived.IntWalk
namespace Go.Proofs.YteiappicdnekoaaDoor
open Go.RowKit Go.Sort
set_option maxRecDepth 20000
theorem bytesP_len (L : List Ent) : ∀ k, k ≤ L.length → (bytesP L k).length = 7 * k
  | 0, _ => rfl
  | k + 1, h => by
    rw [bytesP_next L k (by omega), List.length_append, bytesP_len L k (by omega), put_len]
    omega
/-- the document's Put of one right call -/
theorem rput_ent (e : Ent) (la : Bool) (h : rightD e.1 e.2.1 = true) (w : World) :
    Calls Tryd.prog 42 #[.agg #[.string e.1, .int .i64 e.2.1], .bool e.2.2, .bool la] w fun r w' => r = .returned (.string ⟨(putD e.1.data.toList e.2.1.toNat e.2.2 la).toArray⟩) ∧ Below w.heap.size w w' := by
  obtain ⟨h1, h2, h3, h4, _⟩ := right_facts e.1 e.2.1 h
  obtain ⟨_, _, h7⟩ := right_bytes e.1 e.2.1 h
  have k := rput_any e.1 e.2.1.toNat e.2.2 la w h2 (by omega) h7
  rw [show ((e.2.1.toNat : Nat) : Int) = e.2.1 from by omega] at k
  exact k
set_option maxHeartbeats 2000000 in
theorem rpput_any (a : Option Addr) (cap : Nat) (L : List Ent) (w : World) (hL : L.length ≤ 10) (hE : EntsAt w a cap L) (hr : ∀ e ∈ L, rightD e.1 e.2.1 = true) :
    Calls Tryd.prog 17 #[.agg #[.slice a L.length cap]] w fun e w' => e = .returned (.string ⟨(bytesP L L.length).toArray⟩) ∧ Below w.heap.size w w' := by
  have HB0 := Lib.hid ((Below.refl _ w).alloc (Nat.le_refl _) (.cells #[.slice a L.length cap] 31))
  have HK0 := Lib.hid (show KeepAt (w.alloc (.cells #[.slice a L.length cap] 31)) w.heap.size 0 (.slice a L.length cap) from ⟨World.cell?_alloc_at _ _ _ _ rfl, World.frozen?_alloc_at _ _ _ _ rfl, by simp⟩)
  have HE := Lib.hid (fun W (h : Below w.heap.size w W) => hE.below h)
  have HP := Lib.hid (fun k (h : k < L.length) la W => rput_ent L[k] la (hr _ (List.getElem_mem h)) W)
  have HN := Lib.hid (bytesP_next L)
  have HLN := Lib.hid (bytesP_len L)
  obtain ⟨R, hR⟩ : ∃ R, R = bytesP L L.length := ⟨_, rfl⟩
  rw [← hR]
  have HRR := Lib.hid hR
  clear hE hr hR
  go_enter Tryd.func17, Tryd.ntmps17
  go_wp2
  go_loopw [3, 4] (fun s i wx => ∃ k : Nat, k ≤ L.length ∧ i = .int .i64 k ∧ ∃ S : List UInt8, s = .string ⟨S.toArray⟩ ∧ Hid (S = bytesP L k ∧ Below w.heap.size w wx ∧ KeepAt wx w.heap.size 0 (.slice a L.length cap))) (fun _ i _ => L.length - (intOf i).toNat)
  case atStart => exact ⟨0, by omega, rfl, [], rfl, Lib.hid ⟨rfl, HB0.out, HK0.out⟩⟩
  case round =>
    obtain ⟨k, hk, rfl, S, rfl, HQ⟩ := hrel
    obtain ⟨p0, q0, pl⟩ := HQ.out.2.2
    by_cases hlt : k < L.length
    · have dk : decide ((k : Int) < (L.length : Int)) = true := decide_eq_true (by omega)
      obtain ⟨g, o, rfl, hg, c0, c1, c2⟩ := (HE.out _ HQ.out.2.1).at_ k hlt
      have hwr : IntKind.i64.wrap ((L.length : Int) - 1) = (L.length : Int) - 1 := IntWalk.i64_in _ (by omega)
      have el : ((k : Int) == (L.length : Int) - 1) = decide (k + 1 = L.length) := by rw [Bool.eq_iff_iff, beq_iff_eq, decide_eq_true_eq]; omega
      have hP := HP.out k hlt (decide (k + 1 = L.length))
      have hN := HN.out k hlt
      have hSl : S.length ≤ 70 := by rw [HQ.out.1, HLN.out k hk]; omega
      generalize decide (k + 1 = L.length) = la at *
      generalize L[k] = d at *
      obtain ⟨db, dn, dm⟩ := d
      simp only at c0 c1 c2 hP hN
      generalize hput : putD db.data.toList dn.toNat dm la = P at *
      have hPl : P.length = 7 := by rw [← hput]; exact put_len _ _ _ _
      have b1 := fun (w : World) => run_string_add_sum (P := Tryd.prog) (w := w) ⟨S.toArray⟩ ⟨P.toArray⟩ (by show S.toArray.size + P.toArray.size ≤ _; simp; omega)
      rw [show ((⟨S.toArray⟩ : ByteArray) ++ ⟨P.toArray⟩) = ⟨(S ++ P).toArray⟩ from bytes_ext' (by simp [ByteArray.data_append])] at b1
      have HPP := Lib.hid hP
      have HN2 := Lib.hid hN
      obtain ⟨S', hS'⟩ : ∃ S', S' = S ++ P := ⟨_, rfl⟩
      rw [← hS'] at b1
      have HS' := Lib.hid hS'
      clear hP hN hput hS' hPl
      have g0 := fun d' os => cell_regrown p0 d' os
      have x0 := fun d' os => cell_regrown c0 d' os
      have x1 := fun d' os => cell_regrown c1 d' os
      have x2 := fun d' os => cell_regrown c2 d' os
      go_wp2
      refine wp_region_quiet_below (by kernel_rfl) (by kernel_rfl) ?_
      repeat (quiet_step (first | (go_at_call 42; with_reducible exact Calls.regrown_of (HPP.out _))))
      refine wpQuiet_nil ?_
      intro _ hw'
      obtain ⟨pg, hw''⟩ := hw'
      subst hw''
      have HE2 := Lib.hid (below_regrown wr pg.d pg.os)
      have HB2 := Lib.hid (HQ.out.2.1.trans (HE2.out.mono HQ.out.2.1.size))
      have HK2 := Lib.hid (HQ.out.2.2.below HE2.out)
      generalize grow (redrawn wr pg.d) pg.os = w9 at *
      clear g0 x0 x1 x2 p0 q0 pl c0 c1 c2
      go_wp2
      go_roundw
      case rel => exact ⟨k + 1, by omega, by go_num, S', rfl, Lib.hid ⟨by rw [HS'.out, HN2.out, ← HQ.out.1], HB2.out, HK2.out⟩⟩
      case measure => simp [intOf]; omega
    · obtain rfl : k = L.length := by omega
      have dk : decide ((L.length : Int) < (L.length : Int)) = false := decide_eq_false (by omega)
      have hS : S = R := by rw [HRR.out, HQ.out.1]
      subst hS
      go_wp2
      go_ret
      exact ⟨rfl, HQ.out.2.1⟩
set_option maxHeartbeats 400000 in
/-- the document's word of one right call -/
theorem rtext_ent (e : Ent) (h : rightD e.1 e.2.1 = true) (w : World) :
    Calls Tryd.prog 43 #[.agg #[.string e.1, .int .i64 e.2.1]] w fun r w' => r = .returned (.string ⟨(wordD e).toArray⟩) ∧ Below w.heap.size w w' := by
  obtain ⟨h1, h2, h3, h4, _⟩ := right_facts e.1 e.2.1 h
  obtain ⟨b, n, m⟩ := e
  dsimp only at *
  unfold wordD textD
  dsimp only
  by_cases h0 : n = 0
  · subst h0
    rw [if_pos rfl, back_bytes]
    exact rtext_none b w
  · rw [if_neg h0]
    have k := rtext_some b n.toNat w (by omega) (by omega) h2
    rw [show ((n.toNat : Nat) : Int) = n from by omega] at k
    exact k
set_option maxHeartbeats 2000000 in
theorem rptext_any (a : Option Addr) (cap : Nat) (x y : Ent) (D : List Ent) (w : World) (hD : D.length ≤ 8) (hE : EntsAt w a cap (x :: y :: D)) (hr : ∀ e ∈ x :: y :: D, rightD e.1 e.2.1 = true) :
    Calls Tryd.prog 19 #[.agg #[.slice a (x :: y :: D).length cap]] w fun e w' => e = .returned (.string ⟨(pathD x y D).toArray⟩) ∧ Below w.heap.size w w' := by
  obtain ⟨L, hL⟩ : ∃ L, L = x :: y :: D := ⟨_, rfl⟩
  rw [← hL] at hE ⊢
  have hLn : L.length = D.length + 2 := by rw [hL]; simp
  have HB0 := Lib.hid ((Below.refl _ w).alloc (Nat.le_refl _) (.cells #[.slice a L.length cap] 31))
  have HK0 := Lib.hid (show KeepAt (w.alloc (.cells #[.slice a L.length cap] 31)) w.heap.size 0 (.slice a L.length cap) from ⟨World.cell?_alloc_at _ _ _ _ rfl, World.frozen?_alloc_at _ _ _ _ rfl, by simp⟩)
  have HE := Lib.hid (fun W (h : Below w.heap.size w W) => hE.below h)
  have HNX := Lib.hid (fun W (h : Below w.heap.size w W) => rnext_any a cap L W (by omega) (by omega) (hE.below h))
  have hN : nxtD L = if fstD D < D.length then ((2 + fstD D : Nat) : Int) else -1 := by unfold nxtD; rw [hL]; rfl
  have hX := fun W => rtext_ent x (hr x List.mem_cons_self) W
  have hY := fun W => rtext_ent y (hr y (List.mem_cons_of_mem _ List.mem_cons_self)) W
  have lX := word_le x (hr x List.mem_cons_self)
  have lY := word_le y (hr y (List.mem_cons_of_mem _ List.mem_cons_self))
  have HTX := Lib.hid (fun k (h : k < D.length) W => rtext_ent D[k] (hr _ (List.mem_cons_of_mem _ (List.mem_cons_of_mem _ (List.getElem_mem h)))) W)
  have HWL := Lib.hid (fun k (h : k < D.length) => word_le D[k] (hr _ (List.mem_cons_of_mem _ (List.mem_cons_of_mem _ (List.getElem_mem h)))))
  have htl := fun k => tail_le (fstD D) (D.take k) 0 (fun e he => hr e (List.mem_cons_of_mem _ (List.mem_cons_of_mem _ (List.mem_of_mem_take he))))
  have HTS := Lib.hid (show ∀ k (h : k < D.length), tailD (fstD D) 0 (D.take (k + 1)) = tailD (fstD D) 0 (D.take k) ++ ((44 :: wordD D[k]) ++ (if k + 1 = fstD D then [42] else [])) from fun k h => by
    rw [List.take_succ_eq_append_getElem h, tail_app, List.length_take, show min k D.length = k from by omega]
    simp [tailD])
  have HEND := Lib.hid (show pathD x y D = wordD y ++ 62 :: wordD x ++ tailD (fstD D) 0 (D.take D.length) from by rw [List.take_length]; rfl)
  have hfl := fstD_le D
  obtain ⟨g, o, rfl, hg, c0, c1, c2⟩ := hE.at_ 0 (by omega)
  obtain ⟨g', o', ha, -, d0, d1, d2⟩ := hE.at_ 1 (by omega)
  simp only [Option.some.injEq, Addr.mk.injEq, and_true] at ha
  obtain ⟨rfl, rfl⟩ := ha
  have HXE := Lib.hid (show ∀ k (h : k < D.length), ∀ W, Below w.heap.size w W → W.cell? ⟨g, o + (k + 2) * 3, none⟩ = some (.string D[k].1) ∧ W.cell? ⟨g, o + (k + 2) * 3 + 1, none⟩ = some (.int .i64 D[k].2.1) from fun k h W hb => by
    obtain ⟨gg, oo, hh, -, q0, q1, -⟩ := (hE.below hb).at_ (k + 2) (by omega)
    simp only [Option.some.injEq, Addr.mk.injEq, and_true] at hh
    obtain ⟨rfl, rfl⟩ := hh
    have e : L[k + 2]'(by omega) = D[k] := by simp [hL]
    rw [e] at q0 q1
    exact ⟨q0, q1⟩)
  have e0 : L[0]'(by omega) = x := by simp [hL]
  have e1 : L[1]'(by omega) = y := by simp [hL]
  rw [e0] at c0 c1 c2
  rw [e1] at d0 d1 d2
  obtain ⟨xb, xn, xm⟩ := x
  obtain ⟨yb, yn, ym⟩ := y
  dsimp only at hX hY c0 c1 c2 d0 d1 d2
  rw [Nat.zero_mul, Nat.add_zero] at c0 c1 c2
  rw [Nat.one_mul] at d0 d1 d2
  generalize pathD (xb, xn, xm) (yb, yn, ym) D = RES at *
  generalize wordD (xb, xn, xm) = wt at *
  generalize wordD (yb, yn, ym) = wf at *
  generalize fstD D = f at *
  generalize nxtD L = N at *
  obtain ⟨H, hH⟩ : ∃ H, H = wf ++ 62 :: wt := ⟨_, rfl⟩
  rw [← hH] at HEND
  have HTL := Lib.hid (show ∀ k, k ≤ D.length → (H ++ tailD f 0 (D.take k)).length ≤ 200 from fun k hk => by
    have h1 := htl k
    have h2 : (D.take k).length = k := by rw [List.length_take]; omega
    rw [List.length_append, hH, List.length_append, List.length_cons]
    omega)
  have ha1 := fun (w : World) => run_string_add_sum (P := Tryd.prog) (w := w) ⟨wf.toArray⟩ ⟨#[62]⟩ (by show wf.toArray.size + 1 ≤ _; simp; omega)
  have ha2 := fun (w : World) => run_string_add_sum (P := Tryd.prog) (w := w) (⟨wf.toArray⟩ ++ ⟨#[62]⟩) ⟨wt.toArray⟩ (by rw [ByteArray.size_append]; show wf.toArray.size + 1 + wt.toArray.size ≤ _; simp; omega)
  rw [show ((⟨wf.toArray⟩ : ByteArray) ++ ⟨#[62]⟩) ++ ⟨wt.toArray⟩ = ⟨H.toArray⟩ from bytes_ext' (by rw [hH]; simp [ByteArray.data_append])] at ha2
  have HHX := Lib.hid hX
  have HHY := Lib.hid hY
  have HNN := Lib.hid hN
  have hgW : g < (w.alloc (.cells #[.slice (some ⟨g, o, none⟩) L.length cap] 31)).heap.size := by simp; omega
  have C0 := (HB0.out.cell (p := ⟨g, o, none⟩) hg).trans c0
  have C1 := (HB0.out.cell (p := ⟨g, o + 1, none⟩) hg).trans c1
  have D0 := (HB0.out.cell (p := ⟨g, o + 3, none⟩) hg).trans d0
  have D1 := (HB0.out.cell (p := ⟨g, o + 3 + 1, none⟩) hg).trans d1
  clear hr hE hX hY lX lY htl hH hN c0 c1 c2 d0 d1 d2 hL e0 e1
  have hl1 : (0 : Int) < (L.length : Int) := by omega
  have hl2 : (1 : Int) < (L.length : Int) := by omega
  have hl3 : 0 < L.length := by omega
  have hl4 : 1 < L.length := by omega
  have HLN := Lib.hid hLn
  clear hLn
  go_enter Tryd.func19, Tryd.ntmps19
  go_wp2
  obtain ⟨p0, q0, pl⟩ := HK0.out
  generalize (w.alloc (.cells #[.slice (some ⟨g, o, none⟩) L.length cap] 31)) = w1 at *
  have g0 := fun d' os => cell_regrown p0 d' os
  have x0 := fun d' os => cell_regrown C0 d' os
  have x1 := fun d' os => cell_regrown C1 d' os
  have x2 := fun d' os => cell_regrown D0 d' os
  have x3 := fun d' os => cell_regrown D1 d' os
  refine wp_region_quiet_below (by kernel_rfl) (by kernel_rfl) ?_
  repeat (quiet_step (first
    | (go_at_call 43; with_reducible exact Calls.regrown_of (HHY.out _))
    | (go_at_call 43; with_reducible exact Calls.regrown_of (HHX.out _))))
  refine wpQuiet_nil ?_
  intro _ hw'
  obtain ⟨pg, hw''⟩ := hw'
  subst hw''
  have HE2 := Lib.hid (below_regrown w1 pg.d pg.os)
  have HB2 := Lib.hid (HB0.out.trans (HE2.out.mono HB0.out.size))
  have HK2 := Lib.hid (HK0.out.below HE2.out)
  clear g0 x0 x1 x2 x3 p0 q0 pl C0 C1 D0 D1 ha1 ha2 HE2 HK0 HB0 hgW
  generalize grow (redrawn w1 pg.d) pg.os = w9 at *
  obtain ⟨p0, q0, pl⟩ := HK2.out
  have HNX2 := Lib.hid (HNX.out w9 HB2.out)
  clear HNX
  have HLL := Lib.hid (show ∀ m (h : m < L.length), 2 ≤ m → ∃ d : Ent, (∀ W, Below w.heap.size w W → W.cell? ⟨g, o + m * 3, none⟩ = some (.string d.1) ∧ W.cell? ⟨g, o + m * 3 + 1, none⟩ = some (.int .i64 d.2.1)) ∧ (wordD d).length ≤ 9 ∧
      (∀ W, Calls Tryd.prog 43 #[.agg #[.string d.1, .int .i64 d.2.1]] W fun r w' => r = .returned (.string ⟨(wordD d).toArray⟩) ∧ Below W.heap.size W w') ∧ tailD f 0 (D.take (m + 1 - 2)) = tailD f 0 (D.take (m - 2)) ++ ((44 :: wordD d) ++ (if m - 2 + 1 = f then [42] else [])) from fun m h h2 => by
    have hk : m - 2 < D.length := by have := HLN.out; omega
    refine ⟨D[m - 2], fun W hb => ?_, HWL.out _ hk, HTX.out _ hk, ?_⟩
    · have q := HXE.out (m - 2) hk W hb
      rw [show m - 2 + 2 = m from by omega] at q
      exact q
    · rw [show m + 1 - 2 = m - 2 + 1 from by omega]
      exact HTS.out _ hk)
  clear HXE HTX HWL HTS
  have HN3 := Lib.hid (show N ≤ 20 ∧ -1 ≤ N from by rw [HNN.out]; split <;> omega)
  obtain ⟨hNa, hNb⟩ := HN3.out
  have hL10 : L.length ≤ 10 := by have := HLN.out; omega
  by_cases hlt : f < D.length
  · have hN : N = ((2 + f : Nat) : Int) := by rw [HNN.out, if_pos hlt]
    have HEQ := Lib.hid (show ∀ m, 2 ≤ m → m < L.length → (((m : Nat) : Int) == N - 1) = decide (m - 2 + 1 = f) from fun m h2 h => by rw [hN, Bool.eq_iff_iff, beq_iff_eq, decide_eq_true_eq]; omega)
    have e2 : (N - 1 == -2) = false := by rw [hN, beq_eq_false_iff_ne]; omega
    clear hN
    go_wp2_with (go_at_call 22; (with_reducible refine HNX2.out.mono ?_); rintro e w2 ⟨rfl, hb⟩; have HB := Lib.hid (HB2.out.trans (hb.mono HB2.out.size)); have HK := Lib.hid (HK2.out.below hb); clear hb p0 q0 pl; obtain ⟨p0, q0, pl⟩ := HK.out)
    go_loopw [3, 5] (fun s i wx => ∃ m : Nat, 2 ≤ m ∧ m ≤ L.length ∧ i = .int .i64 m ∧ ∃ S : List UInt8, s = .string ⟨S.toArray⟩ ∧ Hid (S = H ++ tailD f 0 (D.take (m - 2)) ∧ Below w.heap.size w wx ∧ KeepAt wx w.heap.size 0 (.slice (some ⟨g, o, none⟩) L.length cap))) (fun _ i _ => L.length - (intOf i).toNat)
    case atStart => exact ⟨2, by omega, by have := HLN.out; omega, rfl, H, rfl, Lib.hid ⟨by simp [tailD], HB.out, HK.out⟩⟩
    case round =>
      obtain ⟨m, hm2, hm, rfl, S, rfl, HQ⟩ := hrel
      clear HB HK p0 q0 pl
      obtain ⟨p0, q0, pl⟩ := HQ.out.2.2
      by_cases hlt : m < L.length
      · have dk : decide ((m : Int) < (L.length : Int)) = true := decide_eq_true (by omega)
        obtain ⟨d, hcell, hw, hX, hT⟩ := HLL.out m hlt hm2
        obtain ⟨c0, c1⟩ := hcell wr HQ.out.2.1
        have ei := HEQ.out m hm2 hlt
        obtain ⟨db, dn, dm⟩ := d
        dsimp only at c0 c1 hX
        generalize wordD (db, dn, dm) = wd at *
        have HXX := Lib.hid hX
        have HB := Lib.hid HQ.out.2.1
        have HK := Lib.hid HQ.out.2.2
        have hSl : S.length ≤ 200 := by
          rw [HQ.out.1]
          exact HTL.out (m - 2) (by have := HLN.out; omega)
        have HS1 := Lib.hid (show H ++ tailD f 0 (D.take (m + 1 - 2)) = S ++ (44 :: wd ++ (if m - 2 + 1 = f then [42] else [])) from by rw [hT, ← List.append_assoc, ← HQ.out.1])
        have b1 := fun (w : World) => run_string_add_sum (P := Tryd.prog) (w := w) ⟨S.toArray⟩ ⟨#[44]⟩ (by show S.toArray.size + 1 ≤ _; simp; omega)
        rw [show ((⟨S.toArray⟩ : ByteArray) ++ ⟨#[44]⟩) = ⟨(S ++ [44]).toArray⟩ from bytes_ext' (by simp [ByteArray.data_append])] at b1
        obtain ⟨S0, hS0⟩ : ∃ S0, S0 = S ++ [44] := ⟨_, rfl⟩
        rw [← hS0] at b1
        have b2 := fun (w : World) => run_string_add_sum (P := Tryd.prog) (w := w) ⟨S0.toArray⟩ ⟨wd.toArray⟩ (by show S0.toArray.size + wd.toArray.size ≤ _; rw [hS0]; simp; omega)
        rw [show ((⟨S0.toArray⟩ : ByteArray) ++ ⟨wd.toArray⟩) = ⟨(S0 ++ wd).toArray⟩ from bytes_ext' (by simp [ByteArray.data_append])] at b2
        obtain ⟨S1, hS1⟩ : ∃ S1, S1 = S0 ++ wd := ⟨_, rfl⟩
        rw [← hS1] at b2
        have b3 := fun (w : World) => run_string_add_sum (P := Tryd.prog) (w := w) ⟨S1.toArray⟩ ⟨#[42]⟩ (by show S1.toArray.size + 1 ≤ _; rw [hS1, hS0]; simp; omega)
        rw [show ((⟨S1.toArray⟩ : ByteArray) ++ ⟨#[42]⟩) = ⟨(S1 ++ [42]).toArray⟩ from bytes_ext' (by simp [ByteArray.data_append])] at b3
        have HSS := Lib.hid (show S1 = S ++ 44 :: wd from by rw [hS1, hS0]; simp)
        clear hX hS1 hS0 hSl hw hT hcell HQ
        by_cases hf : m - 2 + 1 = f
        · rw [decide_eq_true hf] at ei
          have HFF := Lib.hid hf
          clear hf
          go_wp2_with (first
            | (go_at_call 43; (with_reducible refine (HXX.out _).mono ?_); rintro e w3 ⟨rfl, hb⟩; replace HB := Lib.hid (HB.out.trans (hb.mono HB.out.size)); replace HK := Lib.hid (HK.out.below hb); clear hb))
          go_roundw
          case rel => exact ⟨m + 1, by omega, by omega, by go_num, S1 ++ [42], rfl, Lib.hid ⟨by rw [HS1.out, if_pos HFF.out, HSS.out]; simp, HB.out, HK.out⟩⟩
          case measure => simp [intOf]; omega
        · rw [decide_eq_false hf] at ei
          have HFF := Lib.hid hf
          clear hf
          go_wp2_with (first
            | (go_at_call 43; (with_reducible refine (HXX.out _).mono ?_); rintro e w3 ⟨rfl, hb⟩; replace HB := Lib.hid (HB.out.trans (hb.mono HB.out.size)); replace HK := Lib.hid (HK.out.below hb); clear hb))
          go_roundw
          case rel => exact ⟨m + 1, by omega, by omega, by go_num, S1, rfl, Lib.hid ⟨by rw [HS1.out, if_neg HFF.out, HSS.out]; simp, HB.out, HK.out⟩⟩
          case measure => simp [intOf]; omega
      · obtain rfl : m = L.length := by omega
        have dk : decide ((L.length : Int) < (L.length : Int)) = false := decide_eq_false (by omega)
        have hS : S = RES := by rw [HEND.out, HQ.out.1, show L.length - 2 = D.length from by have := HLN.out; omega]
        subst hS
        go_wp2
        go_ret
        exact ⟨rfl, HQ.out.2.1⟩
  · have hN : N = -1 := by rw [HNN.out, if_neg hlt]
    have HEQ := Lib.hid (show ∀ m, 2 ≤ m → m < L.length → (((m : Nat) : Int) == (L.length : Int) - 1) = decide (m - 2 + 1 = f) from fun m h2 h => by rw [Bool.eq_iff_iff, beq_iff_eq, decide_eq_true_eq]; have := HLN.out; omega)
    subst hN
    go_wp2_with (go_at_call 22; (with_reducible refine HNX2.out.mono ?_); rintro e w2 ⟨rfl, hb⟩; have HB := Lib.hid (HB2.out.trans (hb.mono HB2.out.size)); have HK := Lib.hid (HK2.out.below hb); clear hb p0 q0 pl; obtain ⟨p0, q0, pl⟩ := HK.out)
    go_loopw [3, 5] (fun s i wx => ∃ m : Nat, 2 ≤ m ∧ m ≤ L.length ∧ i = .int .i64 m ∧ ∃ S : List UInt8, s = .string ⟨S.toArray⟩ ∧ Hid (S = H ++ tailD f 0 (D.take (m - 2)) ∧ Below w.heap.size w wx ∧ KeepAt wx w.heap.size 0 (.slice (some ⟨g, o, none⟩) L.length cap))) (fun _ i _ => L.length - (intOf i).toNat)
    case atStart => exact ⟨2, by omega, by have := HLN.out; omega, rfl, H, rfl, Lib.hid ⟨by simp [tailD], HB.out, HK.out⟩⟩
    case round =>
      obtain ⟨m, hm2, hm, rfl, S, rfl, HQ⟩ := hrel
      clear HB HK p0 q0 pl
      obtain ⟨p0, q0, pl⟩ := HQ.out.2.2
      by_cases hlt : m < L.length
      · have dk : decide ((m : Int) < (L.length : Int)) = true := decide_eq_true (by omega)
        obtain ⟨d, hcell, hw, hX, hT⟩ := HLL.out m hlt hm2
        obtain ⟨c0, c1⟩ := hcell wr HQ.out.2.1
        have ei := HEQ.out m hm2 hlt
        obtain ⟨db, dn, dm⟩ := d
        dsimp only at c0 c1 hX
        generalize wordD (db, dn, dm) = wd at *
        have HXX := Lib.hid hX
        have HB := Lib.hid HQ.out.2.1
        have HK := Lib.hid HQ.out.2.2
        have hSl : S.length ≤ 200 := by
          rw [HQ.out.1]
          exact HTL.out (m - 2) (by have := HLN.out; omega)
        have HS1 := Lib.hid (show H ++ tailD f 0 (D.take (m + 1 - 2)) = S ++ (44 :: wd ++ (if m - 2 + 1 = f then [42] else [])) from by rw [hT, ← List.append_assoc, ← HQ.out.1])
        have b1 := fun (w : World) => run_string_add_sum (P := Tryd.prog) (w := w) ⟨S.toArray⟩ ⟨#[44]⟩ (by show S.toArray.size + 1 ≤ _; simp; omega)
        rw [show ((⟨S.toArray⟩ : ByteArray) ++ ⟨#[44]⟩) = ⟨(S ++ [44]).toArray⟩ from bytes_ext' (by simp [ByteArray.data_append])] at b1
        obtain ⟨S0, hS0⟩ : ∃ S0, S0 = S ++ [44] := ⟨_, rfl⟩
        rw [← hS0] at b1
        have b2 := fun (w : World) => run_string_add_sum (P := Tryd.prog) (w := w) ⟨S0.toArray⟩ ⟨wd.toArray⟩ (by show S0.toArray.size + wd.toArray.size ≤ _; rw [hS0]; simp; omega)
        rw [show ((⟨S0.toArray⟩ : ByteArray) ++ ⟨wd.toArray⟩) = ⟨(S0 ++ wd).toArray⟩ from bytes_ext' (by simp [ByteArray.data_append])] at b2
        obtain ⟨S1, hS1⟩ : ∃ S1, S1 = S0 ++ wd := ⟨_, rfl⟩
        rw [← hS1] at b2
        have b3 := fun (w : World) => run_string_add_sum (P := Tryd.prog) (w := w) ⟨S1.toArray⟩ ⟨#[42]⟩ (by show S1.toArray.size + 1 ≤ _; rw [hS1, hS0]; simp; omega)
        rw [show ((⟨S1.toArray⟩ : ByteArray) ++ ⟨#[42]⟩) = ⟨(S1 ++ [42]).toArray⟩ from bytes_ext' (by simp [ByteArray.data_append])] at b3
        have HSS := Lib.hid (show S1 = S ++ 44 :: wd from by rw [hS1, hS0]; simp)
        clear hX hS1 hS0 hSl hw hT hcell HQ
        by_cases hf : m - 2 + 1 = f
        · rw [decide_eq_true hf] at ei
          have HFF := Lib.hid hf
          clear hf
          go_wp2_with (first
            | (go_at_call 43; (with_reducible refine (HXX.out _).mono ?_); rintro e w3 ⟨rfl, hb⟩; replace HB := Lib.hid (HB.out.trans (hb.mono HB.out.size)); replace HK := Lib.hid (HK.out.below hb); clear hb))
          go_roundw
          case rel => exact ⟨m + 1, by omega, by omega, by go_num, S1 ++ [42], rfl, Lib.hid ⟨by rw [HS1.out, if_pos HFF.out, HSS.out]; simp, HB.out, HK.out⟩⟩
          case measure => simp [intOf]; omega
        · rw [decide_eq_false hf] at ei
          have HFF := Lib.hid hf
          clear hf
          go_wp2_with (first
            | (go_at_call 43; (with_reducible refine (HXX.out _).mono ?_); rintro e w3 ⟨rfl, hb⟩; replace HB := Lib.hid (HB.out.trans (hb.mono HB.out.size)); replace HK := Lib.hid (HK.out.below hb); clear hb))
          go_roundw
          case rel => exact ⟨m + 1, by omega, by omega, by go_num, S1, rfl, Lib.hid ⟨by rw [HS1.out, if_neg HFF.out, HSS.out]; simp, HB.out, HK.out⟩⟩
          case measure => simp [intOf]; omega
      · obtain rfl : m = L.length := by omega
        have dk : decide ((L.length : Int) < (L.length : Int)) = false := decide_eq_false (by omega)
        have hS : S = RES := by rw [HEND.out, HQ.out.1, show L.length - 2 = D.length from by have := HLN.out; omega]
        subst hS
        go_wp2
        go_ret
        exact ⟨rfl, HQ.out.2.1⟩
end Go.Proofs.YteiappicdnekoaaDoor
